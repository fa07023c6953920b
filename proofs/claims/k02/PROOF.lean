import PyProof.Rows.All
import Wide.All
import OpenK.AllK
import Wide.FinOn
import HandS.ForMost
import HandS.Wide
import HandS.IsInst
import HandS.Codes
import HandS.Evl
import HandS.Walk
import HandS.Zip
import HandS.Star
import HandS.More
import HandS.Flow
import HandS.RevRange
import HandS.OwnEq
import HandS.NamedTupGet
import HandS.Small
import HandS.ExcOwn
import HandS.WordsExc
import HandS.TupAny
import HandS.TryMany
import HandS.Deep
import HandS.ExcIs
import HandS.Rev
import HandS.TupLe
import HandS.ExcInit
import HandS.ExcField
import PySem.Challenge.RW_sharedboard_k02_books_told
set_option Elab.async false
set_option linter.all false
set_option maxRecDepth 100000
set_option maxHeartbeats 4000000
namespace My
open PySem PySem.Spec PyProof.Rows L2 Evl
open C8 (Cal pe_c)
def topS (i : Nat) : Stmt := PySem.Challenge.pw_sharedboard_k02_books_told.main.body.getD i (.Pass ⟨0, 0, 0, 0⟩)
abbrev s_law_pool : Stmt := topS 36
theorem sc_law_pool : FnScope ["script", "seed", "cell"] ["script"] (defScope s_law_pool) := ⟨rfl, rfl, rfl, by decide +kernel, rfl, by decide +kernel, by decide +kernel⟩
abbrev s_law_draw : Stmt := topS 37
theorem sc_law_draw : FnScope ["pool", "many", "number", "cell", "digit"] ["pool", "many"] (defScope s_law_draw) := ⟨rfl, rfl, rfl, by decide +kernel, rfl, by decide +kernel, by decide +kernel⟩
/-! ### the pool of a law's draws -/
/-- all but the object at p is as it was -/
def Oth (p : Addr) (H H' : Hp) : Prop := ∀ a o, a ≠ p → H a = some o → H' a = some o
theorem Oth.refl (p : Addr) (H : Hp) : Oth p H H := fun _ _ _ h => h
theorem Oth.trans {p : Addr} {H H1 H2 : Hp} (a : Oth p H H1) (b : Oth p H1 H2) : Oth p H H2 := fun c o n h => b c o n (a c o n h)
theorem Oth.of {p : Addr} {H H1 : Hp} (a : Ex H H1) : Oth p H H1 := fun c o _ h => a c o h
theorem Oth.upd {p : Addr} {H : Hp} {o : HO} : Oth p H (upd H p o) := fun c u n h => by rw [upd_ne n]; exact h
structure PoolAt (H : Hp) (p q : Addr) (i b t s : Int) (cs : List Int) : Prop where
  hp : H p = some (.lst [.ref q, .int i, .int b, .int t, .int s])
  hq : H q = some (.lst (cs.map V.int))
  short : cs.length ≤ 63
  i0 : 0 ≤ i
  b0 : 0 ≤ b
def Pool (H : Hp) (p q : Addr) : Prop := ∃ i b t s cs, PoolAt H p q i b t s cs
theorem PoolAt.ne {H : Hp} {p q : Addr} {i b t s : Int} {cs : List Int} (x : PoolAt H p q i b t s cs) : q ≠ p := ne_of x.hq x.hp fun e => by
  have e1 := HO.lst.inj e
  cases cs with
  | nil => cases e1
  | cons c r => cases e1
theorem PoolAt.ex {H H' : Hp} {p q : Addr} {i b t s : Int} {cs : List Int} (x : PoolAt H p q i b t s cs) (e : Ex H H') : PoolAt H' p q i b t s cs :=
  ⟨e _ _ x.hp, e _ _ x.hq, x.short, x.i0, x.b0⟩
theorem Pool.ex {H H' : Hp} {p q : Addr} (x : Pool H p q) (e : Ex H H') : Pool H' p q := by
  obtain ⟨i, b, t, s, cs, x⟩ := x
  exact ⟨i, b, t, s, cs, x.ex e⟩
theorem Pool.ne {H : Hp} {p q : Addr} (x : Pool H p q) : q ≠ p := by
  obtain ⟨i, b, t, s, cs, x⟩ := x
  exact x.ne
/-- a list of ints is not the pool -/
theorem Pool.neI {H : Hp} {p q a : Addr} {ns : List Int} (x : Pool H p q) (h : H a = some (.lst (ns.map V.int))) : a ≠ p := by
  obtain ⟨i, b, t, s, cs, x⟩ := x
  refine ne_of h x.hp fun e => ?_
  have e1 := HO.lst.inj e
  cases ns with
  | nil => cases e1
  | cons c r => cases e1
/-- an object that is neither may change -/
theorem Pool.upd {H : Hp} {p q a : Addr} {o : HO} (x : Pool H p q) (h1 : a ≠ p) (h2 : a ≠ q) : Pool (upd H a o) p q := by
  obtain ⟨i, b, t, s, cs, x⟩ := x
  exact ⟨i, b, t, s, cs, by rw [upd_ne h1.symm]; exact x.hp, by rw [upd_ne h2.symm]; exact x.hq, x.short, x.i0, x.b0⟩
theorem Pool.isP {H : Hp} {p q : Addr} (x : Pool H p q) : ∃ o, H p = some o := by
  obtain ⟨i, b, t, s, cs, x⟩ := x
  exact ⟨_, x.hp⟩
theorem Pool.isQ {H : Hp} {p q : Addr} (x : Pool H p q) : ∃ o, H q = some o := by
  obtain ⟨i, b, t, s, cs, x⟩ := x
  exact ⟨_, x.hq⟩
theorem PoolAt.put {H H' : Hp} {p q : Addr} {i b t s i' b' t' s' : Int} {cs : List Int} (x : PoolAt H p q i b t s cs) (e : Ex H H') (hi : 0 ≤ i') (hb : 0 ≤ b') :
    PoolAt (upd H' p (.lst [.ref q, .int i', .int b', .int t', .int s'])) p q i' b' t' s' cs :=
  ⟨upd_same, by rw [upd_ne x.ne]; exact e _ _ x.hq, x.short, hi, hb⟩
def spPool (K : PySem.W.Frag) : Sp := fun vs H Q _ => ∃ (a : Addr) (ns : List Int), vs = [.ref a] ∧ SqL K H a (ns.map V.int) ∧ ∀ p q H', H p = none → H q = none → Ex H H' → Pool H' p q → Q (.ref p) H'
def spDraw : Sp := fun vs H Q _ => ∃ (p q : Addr) (m : Int), vs = [.ref p, .int m] ∧ 0 < m ∧ m.natAbs < 2 ^ 200 ∧ Pool H p q ∧ ∀ r H', 0 ≤ r → r < m → Oth p H H' → Pool H' p q → Q (.int r) H'
theorem cut63 (xs : List V) : cutV xs none (some 63) = xs.take 63 := by
  unfold cutV
  rw [HT.sIx_none, show HT.sIx xs.length xs.length (some 63) = min 63 xs.length from HT.sIx_nat xs.length xs.length 63]
  show (xs.drop 0).take (min 63 xs.length - 0) = _
  rw [List.drop_zero, Nat.sub_zero, List.take_eq_take_iff]
  omega
section
variable {P : Program} {w : World} {K : PySem.W.Frag} {mg : Str → Option Value} {base : Heap}
theorem ok_pool {f : Addr} {fd : FuncData} {k : Nat} (F : Fun K "_law_pool" "_law_pool" s_law_pool f fd) (z_int : mg "int" = none) (z_list : mg "list" = none) : FnOk P w K mg base CX0 (k + 1) f fd ["script"] (spPool K) := by
  have sc := sc_law_pool
  refine F.ok sc (fun vs H Q E h => ?_) (fun cdv A outer s H vs Q E hr h => ?_)
  · obtain ⟨a, ns, rfl, _⟩ := h
    rfl
  · obtain ⟨a, ns, rfl, hS, q⟩ := h
    refine ⟨_, (pss_cons (ps_set (i := 1) sc.nd rfl (by first | exact Or.inl rfl | exact Or.inr rfl) pe_int)
      (pss_cons (ps_for PassesOwn.never rfl (pi_list (pe_slice sl_list (pv 0) po_none (po_some pe_int))) (pg_name (i := 2) sc.nd rfl (by first | exact Or.inl rfl | exact Or.inr rfl))
      (pss_one (ps_set (i := 1) sc.nd rfl (by first | exact Or.inl rfl | exact Or.inr rfl) (pe_op op_modN (pe_callTy call_int1 (by rfl) z_int (by decide +kernel) (pa_cons (pe_op op_add (pe_op op_add (pe_op op_mul (pv 1) pe_int) (pv 2)) pe_int) pa_nil)) pe_int))))
      (pss_one (ps_ret (pe_lst (pa_cons (pe_callTy call_list_of (by rfl) z_list (by decide +kernel) (pa_cons (pe_slice sl_list (pv 0) po_none (po_some pe_int)) pa_nil)) (pa_cons pe_int (pa_cons pe_int (pa_cons pe_int (pa_cons (pv 1) pa_nil)))))))))), ?_⟩
    -- for cell in script[:63]
    refine ⟨.ref a, rfl, 63, rfl, a, ns.map V.int, rfl, hS, fun c nc => ?_⟩
    rw [cut63, ← List.map_take]
    refine ⟨c, rfl, ⟨_, .inl (.inl upd_same)⟩, for_list (xs := (ns.take 63).map V.int)
      (fun i σ H' => ∃ (n : Int) (y : Option V), σ = [some (.ref a), some (.int n), y] ∧ Ex H H' ∧ H' c = some (.lst ((ns.take 63).map V.int))) ⟨17, none, rfl, Ex.new nc, upd_same⟩ (fun i σ H' hi p => ?_) (fun i x σ H' hi p => ?_) (fun σ H' p => ?_)⟩
    · obtain ⟨n, y, rfl, e, hc⟩ := p
      exact .inl (.inl hc)
    · obtain ⟨n, y, rfl, e, hc⟩ := p
      rw [List.getElem?_map, Option.map_eq_some_iff] at hi
      obtain ⟨z, _, rfl⟩ := hi
      refine ⟨.int n, rfl, n, 43, rfl, rfl, .inr ⟨by decide, by decide⟩, .int z, rfl, n * 43, z, rfl, rfl, n * 43 + z, 3, rfl, rfl, .inl ⟨_, rfl, _, 2147483629, rfl, rfl, show (2147483629 : Int) ≠ 0 by decide, ?_⟩⟩
      exact ⟨_, some (.int z), rfl, e, hc⟩
    · obtain ⟨n, y, rfl, e, hc⟩ := p
      refine ⟨.ref a, rfl, 63, rfl, a, ns.map V.int, rfl, ex_l e hS, fun c2 nc2 => ?_⟩
      rw [cut63, ← List.map_take]
      refine ⟨c2, _, rfl, .inl (.inl (.inl upd_same)), fun l nl => ?_⟩
      refine ⟨.int n, rfl, Nat.le_of_ble_eq_true rfl, fun p np => ?_⟩
      have e2 := (e.trans (Ex.new nc2)).trans (Ex.new (o := .lst ((ns.take 63).map V.int)) nl)
      have e3 := e2.trans (Ex.new (o := .lst [.ref l, .int 0, .int 0, .int 0, .int n]) np)
      refine q p l _ (fresh_back e2 np) (fresh_back (e.trans (Ex.new nc2)) nl) e3 ⟨0, 0, 0, n, ns.take 63, upd_same, ?_, ?_, by decide, by decide⟩
      · rw [upd_ne (ne_of_none upd_same np)]
        exact upd_same
      · rw [List.length_take]; omega

theorem ev_ix0 {σ : L2.St} {H : Hp} {p : Addr} {xs : List V} {j : Nat} {v : V} (hs : σ[0]? = some (some (.ref p))) (h : H p = some (.lst xs)) (hx : xs[j]? = some v) : Ev (tOp (rIxL K) (tVar 0) (tC (.int (j : Int)))) σ H v :=
  ev_op (ev_var hs) ev_c (rv_ixL (sq_of h) (atI_nat hx))
theorem ev_int1 {σ : L2.St} {H : Hp} {te : TE} {n : Int} (h : Ev te σ H (.int n)) : Ev (tCB (fun xs H Q => (∃ i, xs = [.int i] ∧ Q (.int i) H) ∨ ∃ k, xs = [.bl k] ∧ Q (.int (if k then 1 else 0)) H) (tCons te tNil)) σ H (.int n) :=
  ev_cb (ea_cons h ea_nil) fun H1 _ _ q => .inl ⟨n, rfl, q H1 (Ex.refl H1)⟩
theorem fmod_in {a m : Int} (h : 0 < m) : 0 ≤ a.fmod m ∧ a.fmod m < m := by
  rw [Int.fmod_eq_emod_of_nonneg a (by omega)]
  exact ⟨Int.emod_nonneg a (by omega), Int.emod_lt_of_pos a h⟩
theorem ok_draw {f : Addr} {fd : FuncData} {k : Nat} (F : Fun K "_law_draw" "_law_draw" s_law_draw f fd) (z_int : mg "int" = none) (z_len : mg "len" = none) : FnOk P w K mg base CX0 (k + 1) f fd ["pool", "many"] spDraw := by
  have sc := sc_law_draw
  refine F.ok sc (fun vs H Q E h => ?_) (fun cdv A outer s H vs Q E hr h => ?_)
  · obtain ⟨p, q0, m, rfl, _⟩ := h
    rfl
  · obtain ⟨p, q0, m, rfl, hm, hb, ⟨i, b, t, s, cs, x⟩, q⟩ := h
    refine ⟨_, (pss_cons (ps_asg (pe_op op_add (pe_ix ix_list (pv 0) pe_int (fun _ _ => rfl)) pe_int) (pg_sub (pv 0) pe_int set_list))
      (Evl.pss_cut (ps_if (PW.pt (pw_and (pt_cmpR op_eq (pe_ix ix_list (pv 0) pe_int (fun _ _ => rfl)) pe_int (nomark _)) (pw_and1 (pt_cmpR op_lt (pe_ix ix_list (pv 0) pe_int (fun _ _ => rfl)) (pe_callB call_len_seq (by rfl) z_len (by decide +kernel) (pa_cons (pe_ix ix_list (pv 0) pe_int (fun _ _ => rfl)) pa_nil)) (nomark _)))))
      (pss_cons (ps_set (i := 3) sc.nd rfl (by first | exact Or.inl rfl | exact Or.inr rfl) (pe_ix ix_list (pe_ix ix_list (pv 0) pe_int (fun _ _ => rfl)) (pe_ix ix_list (pv 0) pe_int (fun _ _ => rfl)) (fun _ _ => rfl)))
      (pss_cons (ps_asg (pe_op op_add (pe_ix ix_list (pv 0) pe_int (fun _ _ => rfl)) pe_int) (pg_sub (pv 0) pe_int set_list))
      (pss_one (ps_if (pt_cmpR op_ge (pv 3) (pe_op op_pow pe_int pe_int) (nomark _))
      (pss_one (ps_asg (pv 3) (pg_sub (pv 0) pe_int set_list)))
      (pss_one (ps_asg (pe_op op_modN (pe_callTy call_int1 (by rfl) z_int (by decide +kernel) (pa_cons (pe_op op_add (pe_op op_add (pe_op op_mul (pe_ix ix_list (pv 0) pe_int (fun _ _ => rfl)) pe_int) (pv 3)) pe_int) pa_nil)) pe_int) (pg_sub (pv 0) pe_int set_list)))))))
      pss_nil)
      (pss_cons (ps_if (pt_cmpR op_gt (pe_ix ix_list (pv 0) pe_int (fun _ _ => rfl)) pe_int (nomark _))
      (pss_cons (ps_set (i := 4) sc.nd rfl (by first | exact Or.inl rfl | exact Or.inr rfl) (pe_op op_modN (pe_callTy call_int1 (by rfl) z_int (by decide +kernel) (pa_cons (pe_ix ix_list (pv 0) pe_int (fun _ _ => rfl)) pa_nil)) (pv 1)))
      (pss_cons (ps_asg (pe_op op_fdivW (pe_ix ix_list (pv 0) pe_int (fun _ _ => rfl)) (pv 1)) (pg_sub (pv 0) pe_int set_list))
      (pss_one (ps_ret (pv 4)))))
      pss_nil)
      (pss_cons (ps_set (i := 2) sc.nd rfl (by first | exact Or.inl rfl | exact Or.inr rfl) (pe_op op_modN (pe_callTy call_int1 (by rfl) z_int (by decide +kernel) (pa_cons (pe_op op_add (pe_op op_add (pe_op op_mul (pe_ix ix_list (pv 0) pe_int (fun _ _ => rfl)) pe_int) (pe_op op_mul (pe_ix ix_list (pv 0) pe_int (fun _ _ => rfl)) pe_int)) pe_int) pa_nil)) pe_int))
      (pss_cons (ps_set (i := 2) sc.nd rfl (by first | exact Or.inl rfl | exact Or.inr rfl) (pe_op op_modN (pe_callTy call_int1 (by rfl) z_int (by decide +kernel) (pa_cons (pe_op op_mul (pv 2) (pe_op op_add (pe_op op_fdivN (pv 2) pe_int) pe_int)) pa_nil)) pe_int))
      (pss_cons (ps_set (i := 2) sc.nd rfl (by first | exact Or.inl rfl | exact Or.inr rfl) (pe_op op_modN (pe_callTy call_int1 (by rfl) z_int (by decide +kernel) (pa_cons (pe_op op_mul (pv 2) (pe_op op_add (pe_op op_fdivN (pv 2) pe_int) pe_int)) pa_nil)) pe_int))
      (pss_one (ps_ret (pe_op op_modN (pe_callTy call_int1 (by rfl) z_int (by decide +kernel) (pa_cons (pe_op op_fdivN (pv 2) pe_int) pa_nil)) (pv 1)))))))))), ?_⟩
    have hm0 : m ≠ 0 := by omega
    -- pool[3] = pool[3] + 1
    refine q_setL (j := 3) x.hp (ev_op (ev_ix0 (j := 3) rfl x.hp rfl) ev_c rv_I0) (ev_var rfl) ev_c (by show _ < 5; decide) fun H1 e1 => ?_
    have x2 : PoolAt (upd H1 p (.lst [.ref q0, .int i, .int b, .int (t + 1), .int s])) p q0 i b (t + 1) s cs := x.put e1 x.i0 x.b0
    have o2 : Oth p H (upd H1 p (.lst [.ref q0, .int i, .int b, .int (t + 1), .int s])) := (Oth.of e1).trans Oth.upd
    -- if pool[2] == 0 and ..
    refine ⟨fun σ' H' => ∃ (c : Option V) (i' b' t' s' : Int), σ' = [some (.ref p), some (.int m), none, c, none] ∧ Oth p H H' ∧ PoolAt H' p q0 i' b' t' s' cs, ?_, ?_⟩
    · refine s_when (et_and (et_test (ev_op (ev_ix0 (j := 2) rfl x2.hp rfl) ev_c (rv_eq rfl))) fun hb => et_test (ev_op (ev_ix0 (j := 1) rfl x2.hp rfl) (ev_len (ev_ix0 (j := 0) rfl x2.hp rfl) (sq_of x2.hq)) rv_I0)) (fun hb H3 e3 => ?_) (fun hb H3 e3 => ⟨none, i, b, t + 1, s, rfl, o2.trans (.of e3), x2.ex e3⟩)
      have x3 := x2.ex e3
      have o3 : Oth p H H3 := o2.trans (.of e3)
      have hi : i < ((cs.map V.int).length : Int) := of_decide_eq_true (Bool.and_eq_true _ _ ▸ hb).2
      rw [List.length_map] at hi
      have hi2 : i.toNat < cs.length := by have := x.i0; omega
      refine q_asg (v := .int cs[i.toNat]) (ev_op (ev_ix0 (j := 0) rfl x3.hp rfl) (ev_ix0 (j := 1) rfl x3.hp rfl) (rv_ixL (sq_of x3.hq) (at_of (j := i.toNat) (by have := x.i0; omega) (by rw [List.getElem?_map, List.getElem?_eq_getElem hi2]; rfl)))) fun H4 e4 => ?_
      have x4 := x3.ex e4
      refine q_setL (j := 1) x4.hp (ev_op (ev_ix0 (j := 1) rfl x4.hp rfl) ev_c rv_I0) (ev_var rfl) ev_c (by show _ < 5; decide) fun H5 e5 => ?_
      have x5 : PoolAt (upd H5 p (.lst [.ref q0, .int (i + 1), .int b, .int (t + 1), .int s])) p q0 (i + 1) b (t + 1) s cs := x4.put e5 (by have := x.i0; omega) x.b0
      have o5 : Oth p H (upd H5 p (.lst [.ref q0, .int (i + 1), .int b, .int (t + 1), .int s])) := ((o3.trans (.of e4)).trans (.of e5)).trans Oth.upd
      refine s_if (et_test (ev_op (ev_var rfl) (ev_op ev_c ev_c (rv_I ⟨by decide, by decide, by decide⟩)) rv_I0)) (fun hc H6 e6 => ?_) (fun hc H6 e6 => ?_)
      · have x6 := x5.ex e6
        have hz : (0 : Int) ≤ cs[i.toNat] := Int.le_trans (by decide) (of_decide_eq_true hc)
        refine s_setL (j := 2) x6.hp (ev_var rfl) (ev_var rfl) ev_c (by show _ < 5; decide) fun H7 e7 => ?_
        exact ⟨_, i + 1, cs[i.toNat], t + 1, s, rfl, ((o5.trans (.of e6)).trans (.of e7)).trans Oth.upd, x6.put e7 x6.i0 hz⟩
      · have x6 := x5.ex e6
        refine s_setL (j := 4) x6.hp (ev_op (ev_int1 (ev_op (ev_op (ev_op (ev_ix0 (j := 4) rfl x6.hp rfl) ev_c (rv_I (.inr ⟨by decide, by decide⟩))) (ev_var rfl) rv_I0) ev_c rv_I0)) ev_c (rv_I (by decide +revert))) (ev_var rfl) ev_c (by show _ < 5; decide) fun H7 e7 => ?_
        exact ⟨_, i + 1, b, t + 1, _, rfl, ((o5.trans (.of e6)).trans (.of e7)).trans Oth.upd, x6.put e7 x6.i0 x6.b0⟩
    · rintro σ' H' ⟨c, i, b, t, s, rfl, o, x⟩
      refine q_when (et_test (ev_op (ev_ix0 (j := 2) rfl x.hp rfl) ev_c rv_I0)) (fun hc H2 e2 => ?_) (fun hc H2 e2 => ?_)
      · have x2 := x.ex e2
        refine q_asg (ev_op (ev_int1 (ev_ix0 (j := 2) rfl x2.hp rfl)) (ev_var rfl) (rv_I hm0)) fun H3 e3 => ?_
        have x3 := x2.ex e3
        refine q_setL (j := 2) x3.hp (ev_op (ev_ix0 (j := 2) rfl x3.hp rfl) (ev_var rfl) (rv_I (wide_div hm hb (by decide) (by decide)))) (ev_var rfl) ev_c (by show _ < 5; decide) fun H4 e4 => ?_
        refine s_ret (ev_var rfl) fun H5 e5 => ?_
        have x4 : PoolAt (upd H4 p (.lst [.ref q0, .int i, .int (b / m), .int t, .int s])) p q0 i (b / m) t s cs := x3.put e4 x3.i0 (Int.ediv_nonneg x3.b0 (by omega))
        exact q _ _ (fmod_in hm).1 (fmod_in hm).2 ((((o.trans (.of e2)).trans (.of e3)).trans (.of e4)).trans (Oth.upd.trans (.of e5))) ⟨_, _, _, _, _, x4.ex e5⟩
      · have x2 := x.ex e2
        refine q_asg (ev_op (ev_int1 (ev_op (ev_op (ev_op (ev_ix0 (j := 4) rfl x2.hp rfl) ev_c (rv_I (.inr ⟨by decide, by decide⟩))) (ev_op (ev_ix0 (j := 3) rfl x2.hp rfl) ev_c (rv_I (.inr ⟨by decide, by decide⟩))) rv_I0) ev_c rv_I0)) ev_c (rv_I (by decide +revert))) fun H3 e3 => ?_
        have n1 := @fmod_in (s * 69621 + t * 130363 + 12289) 2147483647 (by decide)
        generalize (s * 69621 + t * 130363 + 12289).fmod 2147483647 = n at n1 ⊢
        refine q_asg (ev_op (ev_int1 (ev_op (ev_var rfl) (ev_op (ev_op (ev_var rfl) ev_c (rv_I ⟨by decide, by decide⟩)) ev_c rv_I0) (rv_I (.inl ⟨by omega, by omega⟩)))) ev_c (rv_I (by decide +revert))) fun H4 e4 => ?_
        have n2 := @fmod_in (n * (n.fdiv 1013 + 48271)) 2147483647 (by decide)
        generalize (n * (n.fdiv 1013 + 48271)).fmod 2147483647 = n' at n2 ⊢
        refine q_asg (ev_op (ev_int1 (ev_op (ev_var rfl) (ev_op (ev_op (ev_var rfl) ev_c (rv_I ⟨by decide, by decide⟩)) ev_c rv_I0) (rv_I (.inl ⟨by omega, by omega⟩)))) ev_c (rv_I (by decide +revert))) fun H5 e5 => ?_
        refine s_ret (ev_op (ev_int1 (ev_op (ev_var rfl) ev_c (rv_I ⟨by decide, by decide⟩))) (ev_var rfl) (rv_I hm0)) fun H6 e6 => ?_
        have e := (((e2.trans e3).trans e4).trans e5).trans e6
        exact q _ _ (fmod_in hm).1 (fmod_in hm).2 (o.trans (.of e)) ⟨_, _, _, _, _, x.ex e⟩
end
/-! ### data: what may stand in lists and tuples -/
mutual
/-- equal, kind for kind (actual, due) -/
def sm : PyData → PyData → Bool
  | .none, .none => true
  | .bool a, .bool b => decide (a = b)
  | .int a, .int b => decide (a = b)
  | .str a, .str b => decide (a = b)
  | .list xs, .list ys => smAll xs ys
  | .tuple xs, .tuple ys => smAll xs ys
  | _, _ => false
def smAll : List PyData → List PyData → Bool
  | [], [] => true
  | x :: xs, y :: ys => sm x y && smAll xs ys
  | _, _ => false
end
mutual
/-- at most n levels, no list longer than 10000, no dict -/
def fit : PyData → Nat → Bool
  | .list xs, n => match n with
    | 0 => false
    | m + 1 => decide (xs.length ≤ 10000) && fitAll xs m
  | .tuple xs, n => match n with
    | 0 => false
    | m + 1 => decide (xs.length ≤ 10000) && fitAll xs m
  | .dict _, _ => false
  | _, _ => true
def fitAll : List PyData → Nat → Bool
  | [], _ => true
  | x :: xs, n => fit x n && fitAll xs n
end
mutual
theorem sm_refl : ∀ (d : PyData) (n : Nat), fit d n = true → sm d d = true
  | .none, _, _ => by simp [sm]
  | .bool _, _, _ => by simp [sm]
  | .int _, _, _ => by simp [sm]
  | .str _, _, _ => by simp [sm]
  | .list xs, 0, h => by simp [fit] at h
  | .list xs, n + 1, h => by
    rw [fit, Bool.and_eq_true] at h
    rw [sm]
    exact smAll_refl xs n h.2
  | .tuple xs, 0, h => by simp [fit] at h
  | .tuple xs, n + 1, h => by
    rw [fit, Bool.and_eq_true] at h
    rw [sm]
    exact smAll_refl xs n h.2
  | .dict _, _, h => by simp [fit] at h
theorem smAll_refl : ∀ (xs : List PyData) (n : Nat), fitAll xs n = true → smAll xs xs = true
  | [], _, _ => by simp [smAll]
  | x :: xs, n, h => by
    rw [fitAll, Bool.and_eq_true] at h
    rw [smAll, sm_refl x n h.1, smAll_refl xs n h.2]
    rfl
end
mutual
theorem sm_eq : ∀ (d e : PyData), sm d e = true → d = e
  | .none, e, h => by cases e <;> simp_all [sm]
  | .bool _, e, h => by cases e <;> simp_all [sm]
  | .int _, e, h => by cases e <;> simp_all [sm]
  | .str _, e, h => by cases e <;> simp_all [sm]
  | .list xs, e, h => by
    cases e with
    | list ys => rw [sm] at h; rw [smAll_eq xs ys h]
    | _ => simp [sm] at h
  | .tuple xs, e, h => by
    cases e with
    | tuple ys => rw [sm] at h; rw [smAll_eq xs ys h]
    | _ => simp [sm] at h
  | .dict _, e, h => by cases e <;> simp [sm] at h
theorem smAll_eq : ∀ (xs ys : List PyData), smAll xs ys = true → xs = ys
  | [], ys, h => by cases ys <;> simp_all [smAll]
  | x :: xs, ys, h => by
    cases ys with
    | nil => simp [smAll] at h
    | cons y ys =>
      rw [smAll, Bool.and_eq_true] at h
      rw [sm_eq x y h.1, smAll_eq xs ys h.2]
end
theorem smAll_len : ∀ {xs ys : List PyData}, smAll xs ys = true → xs.length = ys.length := fun h => by rw [smAll_eq _ _ h]
theorem fitAll_mem : ∀ {xs : List PyData} {n : Nat} {x : PyData}, fitAll xs n = true → x ∈ xs → fit x n = true
  | y :: r, n, x, h, m => by
    rw [fitAll, Bool.and_eq_true] at h
    rcases List.mem_cons.mp m with rfl | m
    · exact h.1
    · exact fitAll_mem h.2 m
/-- by places -/
theorem smAll_at : ∀ {xs ys : List PyData}, xs.length = ys.length → (smAll xs ys = true ↔ ∀ i, i < ys.length → sm (xs.getD i .none) (ys.getD i .none) = true)
  | [], [], _ => by simp [smAll]
  | x :: xs, y :: ys, h => by
    have ih := smAll_at (xs := xs) (ys := ys) (by simpa using h)
    rw [smAll, Bool.and_eq_true, ih]
    constructor
    · rintro ⟨h1, h2⟩ i hi
      cases i with
      | zero => exact h1
      | succ i => exact h2 i (by simpa using hi)
    · intro h
      exact ⟨h 0 (by simp), fun i hi => h (i + 1) (by simpa using hi)⟩
theorem given_zero {n : Nat} {f : Nat → Bool} {v : Nat → V} : (given n f v).length = 0 ↔ ∀ i, i < n → f i = false := by
  unfold given
  rw [List.length_map, List.length_eq_zero_iff, List.filter_eq_nil_iff]
  constructor
  · intro h i hi
    have := h i (List.mem_range.mpr hi)
    simpa using this
  · intro h i hi
    rw [h i (List.mem_range.mp hi)]
    decide
theorem smAll_given {xs ys : List PyData} (h : xs.length = ys.length) (v : Nat → V) : decide (((given ys.length (fun i => !sm (xs.getD i .none) (ys.getD i .none)) v).length : Int) = 0) = smAll xs ys := by
  have h1 := given_zero (n := ys.length) (f := fun i => !sm (xs.getD i .none) (ys.getD i .none)) (v := v)
  have h2 := smAll_at h
  cases e : smAll xs ys with
  | true =>
    rw [decide_eq_true_eq]
    have := h1.mpr fun i hi => by
      show (!sm (xs.getD i .none) (ys.getD i .none)) = false
      rw [h2.mp e i hi]; rfl
    omega
  | false =>
    rw [decide_eq_false_iff_not]
    intro z
    have hz : (given ys.length (fun i => !sm (xs.getD i .none) (ys.getD i .none)) v).length = 0 := by omega
    have := h2.mpr fun i hi => by
      have := h1.mp hz i hi
      simpa using this
    rw [e] at this
    cases this
section
variable {K : PySem.W.Frag} {H H' : Hp}
mutual
theorem dp_ex (e : Ex H H') : ∀ (d : PyData) (v : V), Dp K H v d → Dp K H' v d
  | .none, _, h => by cases h; exact .non
  | .bool _, _, h => by cases h; exact .bl _
  | .int _, _, h => by cases h; exact .int _
  | .str _, _, h => by cases h; exact .str _
  | .list ds, _, h => by
    cases h with
    | lst s a => exact .lst (ex_l e s) (dpa_ex e ds _ a)
  | .tuple ds, _, h => by
    cases h with
    | tup s a => exact .tup (ex_t e s) (dpa_ex e ds _ a)
  | .dict _, _, h => by cases h
theorem dpa_ex (e : Ex H H') : ∀ (ds : List PyData) (vs : List V), DpAll K H vs ds → DpAll K H' vs ds
  | [], _, h => by cases h; exact .nil
  | d :: ds, _, h => by
    cases h with
    | cons a b => exact .cons (dp_ex e d _ a) (dpa_ex e ds _ b)
end
theorem dpa_len : ∀ {vs : List V} {ds : List PyData}, DpAll K H vs ds → vs.length = ds.length
  | _, _, .nil => rfl
  | _, _, .cons _ b => by rw [List.length_cons, List.length_cons, dpa_len b]
theorem dpa_at : ∀ {vs : List V} {ds : List PyData} {i : Nat}, DpAll K H vs ds → i < ds.length → ∃ v, vs[i]? = some v ∧ Dp K H v (ds.getD i .none)
  | _, _, i, .nil, h => by simp at h
  | _, _, 0, .cons a _, _ => ⟨_, rfl, a⟩
  | _, _, i + 1, .cons _ b, h => by
    obtain ⟨v, h1, h2⟩ := dpa_at (i := i) b (by simpa using h)
    exact ⟨v, h1, h2⟩
theorem dpa_ints : ∀ ns : List Int, DpAll K H (ns.map V.int) (ns.map PyData.int)
  | [] => .nil
  | n :: r => .cons (.int n) (dpa_ints r)
theorem fit_ints : ∀ (ns : List Int) (n : Nat), fitAll (ns.map PyData.int) n = true
  | [], n => by simp [fitAll]
  | z :: r, n => by
    rw [List.map_cons, fitAll, fit_ints r n]
    simp [fit]
def tyn : PyData → String
  | .none => "NoneType"
  | .bool _ => "bool"
  | .int _ => "int"
  | .str _ => "str"
  | .list _ => "list"
  | .tuple _ => "tuple"
  | .dict _ => "dict"
theorem dp_ty {v : V} {d : PyData} (h : Dp K H v d) : TyX K H v (.type (tyn d)) := by
  cases h with
  | non => exact .base .non
  | bl b => exact .base (.bl b)
  | int i => exact .base (.int i)
  | str x => exact .base (.str x)
  | lst s _ =>
    rcases s with (s | ⟨o, s⟩) | ⟨o, its, n, l, c, _⟩
    · exact .base (.lst s)
    · exact .base (.frz s)
    · exact .kList l c
  | tup s _ =>
    rcases s with (s | ⟨o, s⟩) | ⟨o, its, n, l, c, _⟩
    · exact .base (.tup s)
    · exact .fTuple s
    · exact .kTuple l c
/-- isinstance(d, c), c one of bool, int, str, list, tuple -/
def isaS (t c : String) : Bool := (kitB t c).getD false
def isa (d : PyData) (c : String) : Bool := isaS (tyn d) c
theorem kit_all : ∀ t ∈ ["NoneType", "bool", "int", "str", "list", "tuple", "dict"], kitB t "bool" = some (isaS t "bool") ∧ kitB t "int" = some (isaS t "int") ∧ kitB t "str" = some (isaS t "str") ∧ kitB t "list" = some (isaS t "list") ∧ kitB t "tuple" = some (isaS t "tuple") := by
  decide +kernel
theorem tyn_mem (d : PyData) : tyn d ∈ ["NoneType", "bool", "int", "str", "list", "tuple", "dict"] := by
  cases d <;> simp [tyn]
theorem kitB_isa (d : PyData) : kitB (tyn d) "bool" = some (isa d "bool") ∧ kitB (tyn d) "int" = some (isa d "int") ∧ kitB (tyn d) "str" = some (isa d "str") ∧ kitB (tyn d) "list" = some (isa d "list") ∧ kitB (tyn d) "tuple" = some (isa d "tuple") :=
  kit_all _ (tyn_mem d)
theorem isa_bool : ∀ d : PyData, isa d "bool" = (match d with | .bool _ => true | _ => false)
  | .none => (by decide +kernel : isaS "NoneType" "bool" = false)
  | .bool _ => (by decide +kernel : isaS "bool" "bool" = true)
  | .int _ => (by decide +kernel : isaS "int" "bool" = false)
  | .str _ => (by decide +kernel : isaS "str" "bool" = false)
  | .list _ => (by decide +kernel : isaS "list" "bool" = false)
  | .tuple _ => (by decide +kernel : isaS "tuple" "bool" = false)
  | .dict _ => (by decide +kernel : isaS "dict" "bool" = false)
theorem isa_int : ∀ d : PyData, isa d "int" = (match d with | .int _ => true | .bool _ => true | _ => false)
  | .none => (by decide +kernel : isaS "NoneType" "int" = false)
  | .bool _ => (by decide +kernel : isaS "bool" "int" = true)
  | .int _ => (by decide +kernel : isaS "int" "int" = true)
  | .str _ => (by decide +kernel : isaS "str" "int" = false)
  | .list _ => (by decide +kernel : isaS "list" "int" = false)
  | .tuple _ => (by decide +kernel : isaS "tuple" "int" = false)
  | .dict _ => (by decide +kernel : isaS "dict" "int" = false)
theorem isa_str : ∀ d : PyData, isa d "str" = (match d with | .str _ => true | _ => false)
  | .none => (by decide +kernel : isaS "NoneType" "str" = false)
  | .bool _ => (by decide +kernel : isaS "bool" "str" = false)
  | .int _ => (by decide +kernel : isaS "int" "str" = false)
  | .str _ => (by decide +kernel : isaS "str" "str" = true)
  | .list _ => (by decide +kernel : isaS "list" "str" = false)
  | .tuple _ => (by decide +kernel : isaS "tuple" "str" = false)
  | .dict _ => (by decide +kernel : isaS "dict" "str" = false)
theorem isa_list : ∀ d : PyData, isa d "list" = (match d with | .list _ => true | _ => false)
  | .none => (by decide +kernel : isaS "NoneType" "list" = false)
  | .bool _ => (by decide +kernel : isaS "bool" "list" = false)
  | .int _ => (by decide +kernel : isaS "int" "list" = false)
  | .str _ => (by decide +kernel : isaS "str" "list" = false)
  | .list _ => (by decide +kernel : isaS "list" "list" = true)
  | .tuple _ => (by decide +kernel : isaS "tuple" "list" = false)
  | .dict _ => (by decide +kernel : isaS "dict" "list" = false)
theorem isa_tuple : ∀ d : PyData, isa d "tuple" = (match d with | .tuple _ => true | _ => false)
  | .none => (by decide +kernel : isaS "NoneType" "tuple" = false)
  | .bool _ => (by decide +kernel : isaS "bool" "tuple" = false)
  | .int _ => (by decide +kernel : isaS "int" "tuple" = false)
  | .str _ => (by decide +kernel : isaS "str" "tuple" = false)
  | .list _ => (by decide +kernel : isaS "list" "tuple" = false)
  | .tuple _ => (by decide +kernel : isaS "tuple" "tuple" = true)
  | .dict _ => (by decide +kernel : isaS "dict" "tuple" = false)
theorem ev_isi {σ : L2.St} {te : TE} {x : V} {d : PyData} {c : String} {b : Bool} (hd : Dp K H x d) (h : Ev te σ H x) (hk : kitB (tyn d) c = some b) : Ev (tCB (rIsi K) (tCons te (tCons (tC (.ty c)) tNil))) σ H (.bl b) :=
  ev_cb (ea_cons h (ea_cons ev_c ea_nil)) fun H1 e Q q => ⟨x, .ty c, _, _, b, rfl, .ty c, dp_ty (dp_ex e d x hd), kit_ty hk, q H1 (Ex.refl H1)⟩
/-- isinstance(x, (list, tuple)) -/
theorem ev_isiLT {σ : L2.St} {te : TE} {x : V} {d : PyData} (hd : Dp K H x d) (h : Ev te σ H x) : Ev (tCB (rIsiT K) (tCons te (tCons (tTup (tCons (tC (.ty "list")) (tCons (tC (.ty "tuple")) tNil))) tNil))) σ H (.bl (isa d "list" || isa d "tuple")) := fun H1 e Q q =>
  h H1 e _ fun H2 e2 => ⟨by decide, fun p hp => ⟨x, p, _, _, _, _, rfl, upd_same, .cons (.ty _) (.cons (.ty _) .nil), dp_ty (dp_ex ((e.trans e2).trans (Ex.new hp)) d x hd),
    kitAny_cons (kit_ty (kitB_isa d).2.2.2.1) (fun hb => kitAny_cons (r := isa d "list" || isa d "tuple") (kit_ty (kitB_isa d).2.2.2.2) (fun hc => by rw [hb, hc]; exact kitAny_nil) (fun hc => by rw [hc, Bool.or_true])) (fun hb => by rw [hb, Bool.true_or]),
    q _ (e2.trans (Ex.new hp))⟩⟩
theorem ev_isN {σ : L2.St} {te : TE} {x : V} (h : Ev te σ H x) : Ev (tOp (fun x y H Q => y = .non ∧ Q (.bl (decide (x = .non))) H) te (tC .non)) σ H (.bl (decide (x = .non))) :=
  ev_op h ev_c (rv_val fun _ _ _ q => ⟨rfl, q⟩)
/-- a list or a tuple -/
def Sq (K : PySem.W.Frag) (H : Hp) (a : Addr) (xs : List V) : Prop := SqL K H a xs ∨ SqT K H a xs
theorem sq_ex {a : Addr} {xs : List V} (e : Ex H H') (h : Sq K H a xs) : Sq K H' a xs := h.imp (ex_l e) (ex_t e)
theorem ev_lenS {σ : L2.St} {ta : TE} {p : Addr} {xs : List V} (ha : Ev ta σ H (.ref p)) (h : Sq K H p xs) : Ev (tCB (rLenS K) (tCons ta tNil)) σ H (.int (xs.length : Int)) := fun H1 e Q q =>
  ha H1 e _ fun H2 e2 => ⟨p, xs, rfl, sq_ex (e.trans e2) h, q H2 e2⟩
theorem rv_ixS {p : Addr} {xs : List V} {i : Int} {v : V} (h : Sq K H p xs) (ha : atI xs i = some v) : RV (rIx K) (.ref p) (.int i) H v := fun H1 e _ q => by
  rcases h with h | h
  · exact .inl ⟨p, xs, i, v, rfl, rfl, ex_l e h, ha, q H1 (Ex.refl H1)⟩
  · exact .inr (.inl ⟨p, xs, i, v, rfl, rfl, ex_t e h, ha, q H1 (Ex.refl H1)⟩)
end
abbrev s_law_same : Stmt := topS 46
theorem sc_law_same : FnScope ["actual", "due", "k"] ["actual", "due"] (defScope s_law_same) := ⟨rfl, rfl, rfl, by decide +kernel, rfl, by decide +kernel, by decide +kernel⟩
section
variable {P : Program} {w : World} {K : PySem.W.Frag} {mg : Str → Option Value} {base : Heap}
def spSame (K : PySem.W.Frag) (n : Nat) : Sp := fun vs H Q _ => ∃ (x y : V) (d e : PyData) (m : Nat), vs = [x, y] ∧ n = m + 1 ∧ Dp K H x d ∧ Dp K H y e ∧ fit d m = true ∧ fit e m = true ∧ ∀ H', Ex H H' → Q (.bl (sm d e)) H'
theorem scal_bool {H : Hp} {x y : V} {d e : PyData} (hx : Dp K H x d) (hy : Dp K H y e) (h1 : isa e "bool" = true) (h2 : isa d "bool" = true) : scal x y = true := by
  rw [isa_bool] at h1 h2
  cases hx <;> simp at h2
  cases hy <;> simp at h1
  rfl
theorem scal_int {H : Hp} {x y : V} {d e : PyData} (hx : Dp K H x d) (hy : Dp K H y e) (c1 : isa e "bool" = false) (c2 : isa d "bool" = false) (h1 : isa e "int" = true) (h2 : isa d "int" = true) : scal x y = true := by
  rw [isa_bool] at c1 c2
  rw [isa_int] at h1 h2
  cases hx <;> simp at h2 c2
  cases hy <;> simp at h1 c1
  rfl
theorem scal_str {H : Hp} {x y : V} {d e : PyData} (hx : Dp K H x d) (hy : Dp K H y e) (h1 : isa e "str" = true) (h2 : isa d "str" = true) : scal x y = true := by
  rw [isa_str] at h1 h2
  cases hx <;> simp at h2
  cases hy <;> simp at h1
  rfl
theorem ans_non {H : Hp} {x y : V} {d e : PyData} (hx : Dp K H x d) (hy : Dp K H y e) (h : y = .non) : decide (x = V.non) = sm d e := by
  subst h
  cases hy
  cases hx <;> simp [sm]
theorem ans_bool {H : Hp} {x y : V} {d e : PyData} (hx : Dp K H x d) (hy : Dp K H y e) (hn : decide (y = V.non) = false) (h : (isa e "bool" || isa d "bool") = true) : (isa e "bool" && (isa d "bool" && decide (x = y))) = sm d e := by
  rw [isa_bool, isa_bool] at h ⊢
  cases hy <;> simp at hn <;> cases hx <;> simp [sm] at h ⊢
theorem ans_int {H : Hp} {x y : V} {d e : PyData} (hx : Dp K H x d) (hy : Dp K H y e) (c1 : isa e "bool" = false) (c2 : isa d "bool" = false) (h : isa e "int" = true) : (isa d "int" && decide (x = y)) = sm d e := by
  rw [isa_bool] at c1 c2
  rw [isa_int] at h ⊢
  cases hy <;> simp at h c1 <;> cases hx <;> simp [sm] at c2 ⊢
theorem ans_str {H : Hp} {x y : V} {d e : PyData} (hx : Dp K H x d) (hy : Dp K H y e) (h : isa e "str" = true) : (isa d "str" && decide (x = y)) = sm d e := by
  rw [isa_str] at h ⊢
  cases hy <;> simp at h <;> cases hx <;> simp [sm]
theorem ans_kind {H : Hp} {x y : V} {d e : PyData} (hx : Dp K H x d) (hy : Dp K H y e) (hn : decide (y = V.non) = false) (c1 : isa e "bool" = false) (hi : isa e "int" = false) (hs : isa e "str" = false)
    (h : ((!decide (V.bl (isa e "list") = V.bl (isa d "list"))) || !(isa d "list" || isa d "tuple")) = true) : false = sm d e := by
  rw [isa_list, isa_list, isa_tuple] at h
  rw [isa_int] at hi
  rw [isa_str] at hs
  rw [isa_bool] at c1
  cases hy <;> simp at hn hi hs c1 <;> cases hx <;> simp [sm] at h ⊢
theorem fit_list {xs : List PyData} {n : Nat} (h : fit (.list xs) n = true) : ∃ m, n = m + 1 ∧ xs.length ≤ 10000 ∧ fitAll xs m = true := by
  cases n with
  | zero => simp [fit] at h
  | succ m =>
    rw [fit, Bool.and_eq_true] at h
    exact ⟨m, rfl, of_decide_eq_true h.1, h.2⟩
theorem fit_tuple {xs : List PyData} {n : Nat} (h : fit (.tuple xs) n = true) : ∃ m, n = m + 1 ∧ xs.length ≤ 10000 ∧ fitAll xs m = true := by
  cases n with
  | zero => simp [fit] at h
  | succ m =>
    rw [fit, Bool.and_eq_true] at h
    exact ⟨m, rfl, of_decide_eq_true h.1, h.2⟩
theorem fit_two {xs ys : List PyData} {n : Nat} (h1 : ∃ m, n = m + 1 ∧ xs.length ≤ 10000 ∧ fitAll xs m = true) (h2 : ∃ m, n = m + 1 ∧ ys.length ≤ 10000 ∧ fitAll ys m = true) :
    ∃ m, n = m + 1 ∧ xs.length ≤ 10000 ∧ ys.length ≤ 10000 ∧ fitAll xs m = true ∧ fitAll ys m = true := by
  obtain ⟨m, rfl, a, b⟩ := h1
  obtain ⟨m', e, c, d⟩ := h2
  have : m' = m := by omega
  subst this
  exact ⟨_, rfl, a, c, b, d⟩
/-- both sides hold items -/
theorem both_items {H : Hp} {x y : V} {d e : PyData} (hx : Dp K H x d) (hy : Dp K H y e) (h1 : isa d "list" = isa e "list") (h2 : (isa d "list" || isa d "tuple") = true) (hn : decide (y = .non) = false) (h4 : isa e "int" = false) (h5 : isa e "str" = false) :
    ∃ a xs ds b ys es, x = .ref a ∧ y = .ref b ∧ Sq K H a xs ∧ Sq K H b ys ∧ DpAll K H xs ds ∧ DpAll K H ys es ∧ sm d e = smAll ds es ∧ ∀ n, fit d n = true → fit e n = true → ∃ m, n = m + 1 ∧ ds.length ≤ 10000 ∧ es.length ≤ 10000 ∧ fitAll ds m = true ∧ fitAll es m = true := by
  rw [isa_list, isa_list] at h1
  rw [isa_list, isa_tuple] at h2
  rw [isa_int] at h4
  rw [isa_str] at h5
  cases hx with
  | lst s a =>
    cases hy with
    | lst s2 a2 => exact ⟨_, _, _, _, _, _, rfl, rfl, .inl s, .inl s2, a, a2, by rw [sm], fun n f g => fit_two (fit_list f) (fit_list g)⟩
    | non => cases hn
    | _ => cases h1
  | tup s a =>
    cases hy with
    | tup s2 a2 => exact ⟨_, _, _, _, _, _, rfl, rfl, .inr s, .inr s2, a, a2, by rw [sm], fun n f g => fit_two (fit_tuple f) (fit_tuple g)⟩
    | lst _ _ => cases h1
    | non => cases hn
    | bl => cases h4
    | int => cases h4
    | str => cases h5
  | _ => cases h2
theorem same_step {f : Addr} {fd : FuncData} {n : Nat} (F : Fun K "_law_same" "_law_same" s_law_same f fd) (z_len : mg "len" = none) (z_isinstance : mg "isinstance" = none) (z_bool : mg "bool" = none) (z_int : mg "int" = none) (z_str : mg "str" = none)
    (z_list : mg "list" = none) (z_tuple : mg "tuple" = none) (z_range : mg "range" = none) (C_law_same : Cal P w K mg base n "_law_same" (spSame K n) []) : FnOk P w K mg base CX0 (n + 1) f fd ["actual", "due"] (spSame K (n + 1)) := by
  have sc := sc_law_same
  refine F.ok sc (fun vs H Q E h => ?_) (fun cdv A outer s H vs Q E hr h => ?_)
  · obtain ⟨x, y, d, e, m, rfl, _⟩ := h
    rfl
  · obtain ⟨x, y, d, e, n', rfl, en, hx, hy, fx, fy, q⟩ := h
    obtain rfl : n' = n := by omega
    refine ⟨_, (pss_cons (ps_if (pt_cmpR op_isN (pv 1) pe_non (nomark _))
      (pss_one (ps_ret (pe_cmpR op_isN (pv 0) pe_non (nomark _))))
      pss_nil)
      (pss_cons (ps_if (PW.pt (pw_or (pt_val (pe_callB call_isi (by rfl) z_isinstance (by decide +kernel) (pa_cons (pv 1) (pa_cons (pe_bltn (v := .ty "bool") (by rfl) z_bool (by decide +kernel) rfl) pa_nil)))) (pw_or1 (pt_val (pe_callB call_isi (by rfl) z_isinstance (by decide +kernel) (pa_cons (pv 0) (pa_cons (pe_bltn (v := .ty "bool") (by rfl) z_bool (by decide +kernel) rfl) pa_nil)))))))
      (pss_one (ps_ret (pe_and (pe_callB call_isi (by rfl) z_isinstance (by decide +kernel) (pa_cons (pv 1) (pa_cons (pe_bltn (v := .ty "bool") (by rfl) z_bool (by decide +kernel) rfl) pa_nil))) (pe_and (pe_callB call_isi (by rfl) z_isinstance (by decide +kernel) (pa_cons (pv 0) (pa_cons (pe_bltn (v := .ty "bool") (by rfl) z_bool (by decide +kernel) rfl) pa_nil))) (pe_one (pe_cmpR op_eq (pv 0) (pv 1) (nomark _)))))))
      pss_nil)
      (pss_cons (ps_if (pt_val (pe_callB call_isi (by rfl) z_isinstance (by decide +kernel) (pa_cons (pv 1) (pa_cons (pe_bltn (v := .ty "int") (by rfl) z_int (by decide +kernel) rfl) pa_nil))))
      (pss_one (ps_ret (pe_and (pe_callB call_isi (by rfl) z_isinstance (by decide +kernel) (pa_cons (pv 0) (pa_cons (pe_bltn (v := .ty "int") (by rfl) z_int (by decide +kernel) rfl) pa_nil))) (pe_one (pe_cmpR op_eq (pv 0) (pv 1) (nomark _))))))
      pss_nil)
      (pss_cons (ps_if (pt_val (pe_callB call_isi (by rfl) z_isinstance (by decide +kernel) (pa_cons (pv 1) (pa_cons (pe_bltn (v := .ty "str") (by rfl) z_str (by decide +kernel) rfl) pa_nil))))
      (pss_one (ps_ret (pe_and (pe_callB call_isi (by rfl) z_isinstance (by decide +kernel) (pa_cons (pv 0) (pa_cons (pe_bltn (v := .ty "str") (by rfl) z_str (by decide +kernel) rfl) pa_nil))) (pe_one (pe_cmpR op_eq (pv 0) (pv 1) (nomark _))))))
      pss_nil)
      (pss_cons (ps_if (PW.pt (pw_or (pt_cmpR op_ne (pe_callB call_isi (by rfl) z_isinstance (by decide +kernel) (pa_cons (pv 1) (pa_cons (pe_bltn (v := .ty "list") (by rfl) z_list (by decide +kernel) rfl) pa_nil))) (pe_callB call_isi (by rfl) z_isinstance (by decide +kernel) (pa_cons (pv 0) (pa_cons (pe_bltn (v := .ty "list") (by rfl) z_list (by decide +kernel) rfl) pa_nil))) (nomark _)) (pw_or1 (pt_not (pt_val (pe_callB call_isiT (by rfl) z_isinstance (by decide +kernel) (pa_cons (pv 0) (pa_cons (pe_tup (pa_cons (pe_bltn (v := .ty "list") (by rfl) z_list (by decide +kernel) rfl) (pa_cons (pe_bltn (v := .ty "tuple") (by rfl) z_tuple (by decide +kernel) rfl) pa_nil))) pa_nil))))))))
      (pss_one (ps_ret pe_bl))
      pss_nil)
      (pss_cons (ps_if (pt_cmpR op_ne (pe_callB call_len_seq (by rfl) z_len (by decide +kernel) (pa_cons (pv 0) pa_nil)) (pe_callB call_len_seq (by rfl) z_len (by decide +kernel) (pa_cons (pv 1) pa_nil)) (nomark _))
      (pss_one (ps_ret pe_bl))
      pss_nil)
      (pss_one (ps_ret (pe_cmpR op_eq (pe_callB call_len_seq (by rfl) z_len (by decide +kernel) (pa_cons (pe_lc (own := [("k", 2)]) (by rfl) sc.nd (pi_range1 (by rfl) z_range (pa_cons (pe_callB call_len_seq (by rfl) z_len (by decide +kernel) (pa_cons (pv 1) pa_nil)) pa_nil)) (blkOk_by (own := [("k", 2)]) (N := ["actual", "due", "k"]) (sc := defScope s_law_same) (by decide +kernel)) (fun _ _ _ _ _ => (pg_name (i := 2) sc.nd rfl (by first | exact Or.inl rfl | exact Or.inr rfl))) (fun _ _ _ _ _ => (pts_one (pt_not (pt_val (pe_c C_law_same hr (by omega) (by rfl) (pa_cons (pe_ix (ix_seq : IxR _ (rIx K)) (pv 0) (pv 2) (fun _ _ => rfl)) (pa_cons (pe_ix (ix_seq : IxR _ (rIx K)) (pv 1) (pv 2) (fun _ _ => rfl)) pa_nil))))))) (fun _ _ _ _ _ => (pv 2))) pa_nil)) pe_int (nomark _)))))))))), ?_⟩
    have kd := kitB_isa d
    have ke := kitB_isa e
    have vx : ∀ H1, Ex H H1 → Dp K H1 x d := fun H1 a => dp_ex a d x hx
    have vy : ∀ H1, Ex H H1 → Dp K H1 y e := fun H1 a => dp_ex a e y hy
    -- if due is None
    refine q_when (et_test (ev_isN (ev_var rfl))) (fun hb H1 e1 => ?_) (fun hb H1 e1 => ?_)
    · refine s_ret (ev_isN (ev_var rfl)) fun H2 e2 => ?_
      have z := ans_non hx hy (of_decide_eq_true hb)
      rw [z]
      exact q H2 (e1.trans e2)
    -- if isinstance(due, bool) or isinstance(actual, bool)
    refine q_when (et_or (et_B (ev_isi (vy _ e1) (ev_var rfl) ke.1)) fun _ => et_B (ev_isi (vx _ e1) (ev_var rfl) kd.1)) (fun hc H2 e2 => ?_) (fun hc H2 e2 => ?_)
    · have e12 := e1.trans e2
      refine s_ret (ev_andV (ev_isi (vy _ e12) (ev_var rfl) ke.1) fun h1 => ev_andV (b := decide (x = y)) (ev_isi (vx _ e12) (ev_var rfl) kd.1) fun h2 => ev_op (ev_var rfl) (ev_var rfl) (rv_eq ?_)) fun H3 e3 => ?_
      · exact scal_bool hx hy h1 h2
      · have z := ans_bool hx hy hb hc
        rw [z]
        exact q H3 (e12.trans e3)
    have e12 := e1.trans e2
    obtain ⟨c1, c2⟩ := Bool.or_eq_false_iff.mp hc
    -- if isinstance(due, int)
    refine q_when (et_B (ev_isi (vy _ e12) (ev_var rfl) ke.2.1)) (fun hc H3 e3 => ?_) (fun hci H3 e3 => ?_)
    · have e13 := e12.trans e3
      refine s_ret (ev_andV (b := decide (x = y)) (ev_isi (vx _ e13) (ev_var rfl) kd.2.1) fun h2 => ev_op (ev_var rfl) (ev_var rfl) (rv_eq ?_)) fun H4 e4 => ?_
      · exact scal_int hx hy c1 c2 hc h2
      · have z := ans_int hx hy c1 c2 hc
        rw [z]
        exact q H4 (e13.trans e4)
    have e13 := e12.trans e3
    -- if isinstance(due, str)
    refine q_when (et_B (ev_isi (vy _ e13) (ev_var rfl) ke.2.2.1)) (fun hc H4 e4 => ?_) (fun hcs H4 e4 => ?_)
    · have e14 := e13.trans e4
      refine s_ret (ev_andV (b := decide (x = y)) (ev_isi (vx _ e14) (ev_var rfl) kd.2.2.1) fun h2 => ev_op (ev_var rfl) (ev_var rfl) (rv_eq ?_)) fun H5 e5 => ?_
      · exact scal_str hx hy hc h2
      · have z := ans_str hx hy hc
        rw [z]
        exact q H5 (e14.trans e5)
    have e14 := e13.trans e4
    -- if isinstance(due, list) != isinstance(actual, list) or not isinstance(actual, (list, tuple))
    refine q_when (et_or (et_test (ev_op (ev_isi (vy _ e14) (ev_var rfl) ke.2.2.2.1) (ev_isi (vx _ e14) (ev_var rfl) kd.2.2.2.1) (rv_ne rfl))) fun _ => et_not (et_B (ev_isiLT (vx _ e14) (ev_var rfl)))) (fun hc H5 e5 => ?_) (fun hc H5 e5 => ?_)
    · refine s_ret ev_c fun H6 e6 => ?_
      have z := ans_kind hx hy hb c1 hci hcs hc
      rw [z]
      exact q H6 ((e14.trans e5).trans e6)
    have e15 := e14.trans e5
    obtain ⟨c3, c4⟩ := Bool.or_eq_false_iff.mp hc
    have c5 : isa d "list" = isa e "list" := by
      have := of_decide_eq_true (by simpa using c3 : decide (V.bl (isa e "list") = V.bl (isa d "list")) = true)
      exact (V.bl.inj this).symm
    obtain ⟨a, xs, ds, b, ys, es, rfl, rfl, sx, sy, ax, ay, es0, ft⟩ := both_items (vx _ e15) (vy _ e15) c5 (by rw [Bool.not_eq_false'] at c4; exact c4) hb hci hcs
    obtain ⟨m, em, lx, ly, gx, gy⟩ := ft n' fx fy
    have l1 := dpa_len ax
    have l2 := dpa_len ay
    -- if len(actual) != len(due)
    refine q_when (et_test (ev_op (ev_lenS (ev_var rfl) sx) (ev_lenS (ev_var rfl) sy) (rv_ne rfl))) (fun hc H6 e6 => ?_) (fun hc H6 e6 => ?_)
    · refine s_ret ev_c fun H7 e7 => ?_
      have z : false = sm d e := by
        rw [es0]
        cases e9 : smAll ds es with
        | false => rfl
        | true =>
          have := smAll_len e9
          have h9 : (xs.length : Int) = (ys.length : Int) := by omega
          rw [h9] at hc
          simp at hc
      rw [z]
      exact q H7 ((e15.trans e6).trans e7)
    have h9 : ds.length = es.length := by
      have : V.int (xs.length : Int) = V.int (ys.length : Int) := of_decide_eq_true (by simpa using hc)
      have := V.int.inj this
      omega
    have e16 := e15.trans e6
    have sx := sq_ex e6 sx
    have sy := sq_ex e6 sy
    have ax := dpa_ex e6 ds _ ax
    have ay := dpa_ex e6 es _ ay
    refine s_ret (ev_op (ev_lenN (el_lcR1 (fun i => !sm (ds.getD i .none) (es.getD i .none)) (fun i => .int (i : Int)) (ea_cons (ev_lenS (ev_var rfl) sy) ea_nil) ⟨by omega, by omega⟩ (fun _ => rfl) (fun i H7 e7 hi => ?_) (fun i H7 e7 hi _ => ev_var rfl))) ev_c (rv_eq rfl)) fun H7 e7 => ?_
    · have hi2 : i < es.length := by omega
      obtain ⟨v1, g1, p1⟩ := dpa_at ax (show i < ds.length by omega)
      obtain ⟨v2, g2, p2⟩ := dpa_at ay hi2
      refine et_not (et_B (ev_call (vs := [v1, v2]) (ea_cons (ev_op (ev_var rfl) (ev_var rfl) (rv_ixS (sq_ex e7 sx) (atI_nat g1))) (ea_cons (ev_op (ev_var rfl) (ev_var rfl) (rv_ixS (sq_ex e7 sy) (atI_nat g2))) ea_nil)) fun H8 e8 Q8 q8 E8 => ?_))
      refine ⟨v1, v2, _, _, m, rfl, em, dp_ex (e7.trans e8) _ _ p1, dp_ex (e7.trans e8) _ _ p2, fitAll_mem gx ?_, fitAll_mem gy ?_, q8⟩
      · rw [List.getD_eq_getElem?_getD, List.getElem?_eq_getElem (show i < ds.length by omega)]
        exact List.getElem_mem _
      · rw [List.getD_eq_getElem?_getD, List.getElem?_eq_getElem hi2]
        exact List.getElem_mem _
    · have z : decide (V.int ((given (ys.length : Int).toNat (fun i => !sm (ds.getD i .none) (es.getD i .none)) (fun i => .int (i : Int))).length : Int) = V.int 0) = sm d e := by
        rw [es0, ← smAll_given h9 (fun i => .int (i : Int))]
        have h10 : (ys.length : Int).toNat = es.length := by omega
        rw [h10]
        have : ∀ k : Int, decide (V.int k = V.int 0) = decide (k = 0) := fun k => by
          rw [dec_int]
          exact (Bool.eq_iff_iff.mpr (by simp))
        exact this _
      rw [z]
      exact q H7 (e16.trans e7)
theorem ok_same {f : Addr} {fd : FuncData} (F : Fun K "_law_same" "_law_same" s_law_same f fd) (g : mg "_law_same" = some (.ref f)) (b : Binds K fd ["actual", "due"] []) (z_len : mg "len" = none) (z_isinstance : mg "isinstance" = none) (z_bool : mg "bool" = none) (z_int : mg "int" = none) (z_str : mg "str" = none)
    (z_list : mg "list" = none) (z_tuple : mg "tuple" = none) (z_range : mg "range" = none) : ∀ n, FnOk P w K mg base CX0 n f fd ["actual", "due"] (spSame K n)
  | 0 => ⟨fun _ _ _ _ ⟨_, _, _, _, _, _, h, _⟩ => (nomatch h), fun _ _ _ _ _ _ _ _ _ _ _ _ _ ⟨_, _, _, _, _, _, h, _⟩ => (nomatch h)⟩
  | n + 1 => same_step F z_len z_isinstance z_bool z_int z_str z_list z_tuple z_range ⟨f, fd, _, [], ok_same F g b z_len z_isinstance z_bool z_int z_str z_list z_tuple z_range n, g, F.kp, b, .nil⟩
end
/-! ### more of what evaluates to what -/
section
variable {K : PySem.W.Frag} {σ : L2.St} {H H' : Hp} {ta te tl : TE} {x y z v : V}
theorem el_is {xs ys : List V} (h : EvL te σ H xs) (e : xs = ys) : EvL te σ H ys := e ▸ h
theorem given_all (n : Nat) (v : Nat → V) : given n (fun _ => true) v = (List.range n).map v := by
  unfold given
  rw [List.filter_eq_self.mpr fun _ _ => rfl]
theorem et_yes : EvT tYes σ H true := fun H1 _ _ q => q H1 (Ex.refl H1)
/-- [e for k in range(n)] -/
theorem el_rng {tr : TA} {j : Nat} {vs : List Nat} {n : Nat} (v : Nat → V) (h : EvA tr σ H [.int (n : Int)]) (hn : n ≤ 40000) (hw : ∀ x, wipe ((wipe σ vs).set j (some x)) vs = wipe σ vs)
    (he : ∀ (i : Nat) H1, Ex H H1 → i < n → Ev te ((wipe σ vs).set j (some (.int (i : Int)))) H1 (v i)) : EvL (tLc (iRng1 tr) (gName j) tYes te vs) σ H ((List.range n).map v) :=
  el_is (el_lcR1 (fun _ => true) v h ⟨by omega, by omega⟩ hw (fun _ _ _ _ => et_yes) (fun i H1 e hi _ => he i H1 e (by omega))) (by rw [given_all, Int.toNat_natCast])
theorem ev_sumN {ns : List Int} (h : EvL te σ H (ns.map V.int)) : Ev (tCB (rSum K) (tCons te tNil)) σ H (.int ns.sum) := fun H1 e Q q =>
  h H1 e _ fun p H2 _ e2 h2 => ⟨p, ns, rfl, sq_of h2, q H2 e2⟩
def Cw2 (H : Hp) (n : Nat) (v : Nat → Nat → V) (D : Addr) (t : Nat) (H' : Hp) : Prop := H D = none ∧ Ex H H' ∧ H' D = some (.lst ((List.range t).map fun m => v (m / n) (m % n)))
/-- [e for i in range(w) for j in range(n)] -/
theorem el_rng2 {tr tr1 : TA} {j j1 : Nat} {vs vs1 : List Nat} {w n : Nat} (v : Nat → Nat → V) (h : EvA tr σ H [.int (w : Int)]) (hw0 : w ≤ 100) (hn0 : n ≤ 100)
    (hw : ∀ x, wipe ((wipe σ vs).set j (some x)) vs = wipe σ vs) (h1 : ∀ (i : Nat) H1, Ex H H1 → i < w → EvA tr1 ((wipe σ vs).set j (some (.int (i : Int)))) H1 [.int (n : Int)])
    (hw1 : ∀ x y, wipe ((wipe ((wipe σ vs).set j (some x)) vs1).set j1 (some y)) vs1 = wipe ((wipe σ vs).set j (some x)) vs1)
    (he : ∀ (i k : Nat) H1, Ex H H1 → i < w → k < n → Ev te ((wipe ((wipe σ vs).set j (some (.int (i : Int)))) vs1).set j1 (some (.int (k : Int)))) H1 (v i k)) :
    EvL (tLc2 (iRng1 tr) (gName j) tYes (iRng1 tr1) (gName j1) tYes te vs vs1) σ H ((List.range (w * n)).map fun m => v (m / n) (m % n)) := fun H0 e Q q => h H0 e _ fun H1 e1 => ⟨(w : Int), rfl, by omega, by omega, fun D hD => by
  have e01 := e.trans e1
  refine ⟨fun i m H' => m = w - i ∧ i ≤ w ∧ Cw2 H1 n v D (i * n) H', ⟨w, by omega, by omega, hD, Ex.new hD, ?_⟩, fun i m H' hW => ?_⟩
  · rw [upd_same, Nat.zero_mul]; rfl
  · obtain ⟨rfl, hi, p⟩ := hW
    by_cases hlt : i < w
    · refine .inr ⟨show i < (w : Int).toNat by omega, fun H2 => Cw2 H1 n v D ((i + 1) * n) H2, fun H2 p2 => ⟨w - (i + 1), by omega, rfl, hlt, p2⟩, fun x H2 y => ?_⟩
      obtain ⟨rfl, rfl⟩ := y
      have e0 : (0 : Int) + (i : Int) = (i : Int) := Int.zero_add _
      show wipe ((wipe σ vs).set j (some (.int ((0 : Int) + (i : Int))))) vs = wipe σ vs ∧ _
      refine ⟨hw _, ?_⟩
      rw [e0]
      refine h1 i _ (e01.trans p.2.1) hlt _ (Ex.refl _) _ fun H3 e3 => ⟨(n : Int), rfl, by omega, by omega, fun k m H4 => m = n - k ∧ k ≤ n ∧ Cw2 H1 n v D (i * n + k) H4, ⟨n, by omega, by omega, p.1, p.2.1.trans e3, e3 _ _ p.2.2⟩, fun k m H4 hW => ?_⟩
      obtain ⟨rfl, hk, p4⟩ := hW
      by_cases hlk : k < n
      · refine .inr ⟨show k < (n : Int).toNat by omega, fun H5 => Cw2 H1 n v D (i * n + (k + 1)) H5, fun H5 p5 => ⟨n - (k + 1), by omega, rfl, hlk, p5⟩, fun x H5 y => ?_⟩
        obtain ⟨rfl, rfl⟩ := y
        have e0 : (0 : Int) + (k : Int) = (k : Int) := Int.zero_add _
        show wipe ((wipe ((wipe σ vs).set j (some (.int (i : Int)))) vs1).set j1 (some (.int ((0 : Int) + (k : Int))))) vs1 = wipe ((wipe σ vs).set j (some (.int (i : Int)))) vs1 ∧ _
        refine ⟨hw1 _ _, ?_⟩
        rw [e0]
        show te _ _ _
        have hh : i * n + k < 10000 := by
          have : i * n ≤ 99 * 100 := Nat.mul_le_mul (by omega) hn0
          omega
        refine he i k _ (e01.trans p4.2.1) hlt hlk _ (Ex.refl _) _ fun H6 e6 => ⟨_, e6 _ _ p4.2.2, ?_, p4.1, Ex.mut (p4.2.1.trans e6) p4.1, ?_⟩
        · rw [List.length_map, List.length_range]
          exact sz_lt (by omega)
        · rw [upd_same, ← Nat.add_assoc, List.range_succ, List.map_append]
          have h1 : (i * n + k) / n = i := by rw [Nat.mul_comm, Nat.mul_add_div (by omega), Nat.div_eq_of_lt hlk, Nat.add_zero]
          have h2 : (i * n + k) % n = k := by rw [Nat.mul_comm, Nat.mul_add_mod, Nat.mod_eq_of_lt hlk]
          rw [List.map_singleton, h1, h2]
      · have : k = n := by omega
        subst this
        refine .inl ⟨show (k : Int).toNat ≤ k by omega, ?_⟩
        rw [Nat.succ_mul]
        exact p4
    · have : i = w := by omega
      subst this
      exact .inl ⟨show (i : Int).toNat ≤ i by omega, q D H' (fresh_back e1 p.1) (e1.trans p.2.1) p.2.2⟩⟩
/-- a comprehension over a list that is made on the way -/
theorem lc_new {xs : List V} {g : TG} {tt : TT} {vs : List Nat} {Q : VK} (h : EvL tl σ H xs)
    (k : ∀ L H1, H L = none → Ex H H1 → H1 L = some (.lst xs) → ∀ D, H1 D = none → ∃ W : Nat → Nat → Hp → Prop, (∃ m, W 0 m (upd H1 D (.lst []))) ∧ ∀ i m H, W i m H →
      ((Itl K L).stop i H ∧ Q (.ref D) H) ∨ ((Itl K L).go i H ∧ ∃ Nx : Hp → Prop, (∀ H', Nx H' → ∃ m', m' < m ∧ W (i + 1) m' H') ∧ ∀ x H', (Itl K L).yld i H x H' → g x (wipe σ vs) H' fun σ2 H2 => wipe σ2 vs = wipe σ vs ∧ tt σ2 H2 fun b H3 =>
        if b = true then te σ2 H3 fun y H4 => ∃ acc, H4 D = some (.lst acc) ∧ acc.length < sizeLine ∧ Nx (upd H4 D (.lst (acc ++ [y]))) else Nx H3)) : tLc (iList K tl) g tt te vs σ H Q :=
  h H (Ex.refl H) _ fun L H1 nL e1 hL => ⟨L, rfl, ⟨xs, sq_of hL⟩, k L H1 nL e1 hL⟩
theorem s_retR {D : Ends} (h : te σ H D.rt) : tRet te D σ H := h
end
/-! ### what evaluates to something that is so -/
section
variable {K : PySem.W.Frag} {σ : L2.St} {H H' : Hp} {ta te tx ty : TE} {v : V} {Φ Ψ : V → Hp → Prop} {E : XK}
def EvP (te : TE) (σ : L2.St) (H : Hp) (Φ : V → Hp → Prop) : Prop := ∀ H1, Ex H H1 → ∀ Q : VK, (∀ v H2, Ex H1 H2 → Φ v H2 → Q v H2) → te σ H1 Q
theorem EvP.mono (h : EvP te σ H Φ) (e : Ex H H') : EvP te σ H' Φ := fun H1 a Q q => h H1 (e.trans a) Q q
theorem EvP.imp (h : EvP te σ H Φ) (k : ∀ v H2, Ex H H2 → Φ v H2 → Ψ v H2) : EvP te σ H Ψ := fun H1 a Q q => h H1 a Q fun v H2 e f => q v H2 e (k v H2 (a.trans e) f)
theorem ep_ev (h : Ev te σ H v) (k : ∀ H2, Ex H H2 → Φ v H2) : EvP te σ H Φ := fun H1 a Q q => h H1 a Q fun H2 e => q v H2 e (k H2 (a.trans e))
theorem ep_el {xs : List V} (h : EvL te σ H xs) (k : ∀ p H2, Ex H H2 → H2 p = some (.lst xs) → Φ (.ref p) H2) : EvP te σ H Φ := fun H1 a Q q => h H1 a Q fun p H2 _ e hp => q _ H2 e (k p H2 (a.trans e) hp)
theorem ep_call1 {sp : Sp} (h : EvP tx σ H Φ) (k : ∀ v H2, Ex H H2 → Φ v H2 → ∀ Q : VK, (∀ w H3, Ex H2 H3 → Ψ w H3 → Q w H3) → sp [v] H2 Q E) : EvP (tCall sp [] E (tCons tx tNil)) σ H Ψ := fun H1 a Q q =>
  h H1 a _ fun v H2 e f => k v H2 (a.trans e) f Q fun w H3 e3 g => q w H3 (e.trans e3) g
/-- data -/
def DP (K : PySem.W.Frag) (d : PyData) (v : V) (H : Hp) : Prop := Dp K H v d
theorem ep_dp {d : PyData} (h : Ev te σ H v) (hd : Dp K H v d) : EvP te σ H (DP K d) := ep_ev h fun _ e => dp_ex e d v hd
theorem ev_same {d : PyData} {n : Nat} (hx : EvP tx σ H (DP K d)) (hy : EvP ty σ H (DP K d)) (hf : fit d n = true) : Ev (tCall (spSame K (n + 1)) [] E (tCons tx (tCons ty tNil))) σ H (.bl true) := fun H1 a Q q =>
  hx H1 a _ fun x H2 e2 dx => hy H2 (a.trans e2) _ fun y H3 e3 dy => ⟨x, y, d, d, n, rfl, rfl, dp_ex e3 d x dx, dy, hf, hf, fun H4 e4 => by
    rw [sm_refl d n hf]
    exact q H4 ((e2.trans e3).trans e4)⟩
/-- if not same(..): return False -/
theorem q_same {D : Ends} {d : PyData} {n : Nat} {tr tz : TS} (hx : EvP tx σ H (DP K d)) (hy : EvP ty σ H (DP K d)) (hf : fit d n = true) (k : ∀ H1, Ex H H1 → tz D σ H1) :
    tSeq (tIfS (tNot (tB (tCall (spSame K (n + 1)) [] E (tCons tx (tCons ty tNil))))) tr tNext) tz D σ H :=
  q_when (et_not (et_B (ev_same hx hy hf))) (fun h => (nomatch h)) fun _ H1 e => k H1 e
/-- a list of ints -/
def IL (K : PySem.W.Frag) (l : List Int) (v : V) (H : Hp) : Prop := ∃ a, v = .ref a ∧ SqL K H a (l.map V.int)
abbrev LI (l : List Int) : PyData := .list (l.map PyData.int)
theorem ep_il {a : Addr} {l : List Int} (h : Ev te σ H (.ref a)) (hS : SqL K H a (l.map V.int)) : EvP te σ H (IL K l) := ep_ev h fun _ e => ⟨a, rfl, ex_l e hS⟩
theorem il_el {l : List Int} (h : EvL te σ H (l.map V.int)) : EvP te σ H (IL K l) := ep_el h fun p H2 _ hp => ⟨p, rfl, sq_of hp⟩
theorem il_dp {l : List Int} (h : EvP te σ H (IL K l)) : EvP te σ H (DP K (LI l)) := h.imp fun v H2 _ f => by
  obtain ⟨a, rfl, hS⟩ := f
  exact .lst hS (dpa_ints l)
theorem fit_LI {l : List Int} {n : Nat} (h : l.length ≤ 10000) : fit (LI l) (n + 1) = true := by
  rw [fit, fit_ints, Bool.and_true, decide_eq_true_eq, List.length_map]
  exact h
theorem q_run {i : Nat} {tz : TS} {D : Ends} (h : te σ H fun v H1 => tz D (σ.set i (some v)) H1) : tSeq (tAsg te (gName i)) tz D σ H := h
end
/-! ### statements -/
inductive Stm where
  | set (k : Nat) (r : List Int)
  | carry (r : List Int)
  | keep (cs : List Nat) (b : List Stm)
  | either (a b : List Stm)
  | again (b : List Stm)
  | call (p : Nat) (r : List Int) (a b : List Stm)
  | fin (w : Nat)
mutual
def toD : Stm → PyData
  | .set k r => .tuple [.str "set", .int (k : Int), LI r]
  | .carry r => .tuple [.str "carry", LI r]
  | .keep cs b => .tuple [.str "keep", LI (cs.map (Nat.cast : Nat → Int)), .list (toDs b)]
  | .either a b => .tuple [.str "either", .list (toDs a), .list (toDs b)]
  | .again b => .tuple [.str "again", .list (toDs b)]
  | .call p r a b => .tuple [.str "call", .int (p : Int), LI r, .list [.list (toDs a), .list (toDs b)]]
  | .fin w => .tuple [.str "end", .int (w : Int)]
def toDs : List Stm → List PyData
  | [] => []
  | s :: r => toD s :: toDs r
end
mutual
/-- how many statements, all levels counted -/
def cnt : Stm → Nat
  | .set _ _ => 1
  | .carry _ => 1
  | .keep _ b => 1 + cntL b
  | .either a b => 1 + cntL a + cntL b
  | .again b => 1 + cntL b
  | .call _ _ a b => 1 + cntL a + cntL b
  | .fin _ => 1
def cntL : List Stm → Nat
  | [] => 0
  | s :: r => cnt s + cntL r
end
def okR (c : Nat) (r : List Int) : Prop := r.length = c + 2 ∧ ∀ x ∈ r, -9 ≤ x ∧ x ≤ 9
/-- ascending, each below c -/
def asc (c : Nat) (cs : List Nat) : Prop := cs.Pairwise (· < ·) ∧ ∀ k ∈ cs, k < c
mutual
/-- a statement of a book with c cells and m procedures, at a level -/
def okS (c m : Nat) : Stm → Nat → Prop
  | .set k r, _ => k < c ∧ okR c r
  | .carry r, _ => okR c r
  | .keep cs b, lv => lv < 3 ∧ asc c cs ∧ b.length ≤ 8 ∧ okL c m b (lv + 1)
  | .either a b, lv => lv < 3 ∧ a.length ≤ 8 ∧ okL c m a (lv + 1) ∧ b.length ≤ 8 ∧ okL c m b (lv + 1)
  | .again b, lv => lv < 3 ∧ b.length ≤ 8 ∧ okL c m b (lv + 1)
  | .call p r a b, lv => lv < 3 ∧ p < m ∧ okR c r ∧ a.length ≤ 8 ∧ okL c m a (lv + 1) ∧ b.length ≤ 8 ∧ okL c m b (lv + 1)
  | .fin w, _ => w < 2
def okL (c m : Nat) : List Stm → Nat → Prop
  | [], _ => True
  | s :: r, lv => okS c m s lv ∧ okL c m r lv
end
theorem okL_app {c m lv : Nat} : ∀ {a b : List Stm}, okL c m a lv → okL c m b lv → okL c m (a ++ b) lv
  | [], _, _, h => h
  | s :: r, b, h, g => by
    rw [okL] at h
    rw [List.cons_append, okL]
    exact ⟨h.1, okL_app h.2 g⟩
theorem cntL_app : ∀ (a b : List Stm), cntL (a ++ b) = cntL a + cntL b
  | [], b => by rw [List.nil_append, cntL, Nat.zero_add]
  | s :: r, b => by rw [List.cons_append, cntL, cntL, cntL_app r b, Nat.add_assoc]
theorem toDs_app : ∀ (a b : List Stm), toDs (a ++ b) = toDs a ++ toDs b
  | [], b => by rw [List.nil_append, toDs, List.nil_append]
  | s :: r, b => by rw [List.cons_append, toDs, toDs, toDs_app r b, List.cons_append]
theorem toDs_map : ∀ l : List Stm, toDs l = l.map toD
  | [] => by rw [toDs]; rfl
  | s :: r => by rw [toDs, toDs_map r]; rfl
theorem toDs_len (l : List Stm) : (toDs l).length = l.length := by rw [toDs_map, List.length_map]
theorem okL_mem {c m lv : Nat} : ∀ {l : List Stm} {s : Stm}, okL c m l lv → s ∈ l → okS c m s lv
  | t :: r, s, h, hm => by
    rw [okL] at h
    rcases List.mem_cons.mp hm with rfl | hm
    · exact h.1
    · exact okL_mem h.2 hm
/-! ### data whose lists and tuples stand where N says -/
mutual
inductive Dq (N : Addr → Prop) (H : Hp) : V → PyData → Prop
  | non : Dq N H .non .none
  | bl (b : Bool) : Dq N H (.bl b) (.bool b)
  | int (i : Int) : Dq N H (.int i) (.int i)
  | str (x : Str) : Dq N H (.str x) (.str x)
  | lst {a : Addr} {xs : List V} {ds : List PyData} : N a → H a = some (.lst xs) → DqAll N H xs ds → Dq N H (.ref a) (.list ds)
  | tup {a : Addr} {xs : List V} {ds : List PyData} : N a → H a = some (.tup xs) → DqAll N H xs ds → Dq N H (.ref a) (.tuple ds)
inductive DqAll (N : Addr → Prop) (H : Hp) : List V → List PyData → Prop
  | nil : DqAll N H [] []
  | cons {v : V} {vs : List V} {d : PyData} {ds : List PyData} : Dq N H v d → DqAll N H vs ds → DqAll N H (v :: vs) (d :: ds)
end
section
variable {N N' : Addr → Prop} {H H' : Hp} {K : PySem.W.Frag}
mutual
theorem dq_to (h : ∀ a, N a → N' a) (k : ∀ a o, N a → H a = some o → H' a = some o) : ∀ (d : PyData) (v : V), Dq N H v d → Dq N' H' v d
  | .none, _, x => by cases x; exact .non
  | .bool _, _, x => by cases x; exact .bl _
  | .int _, _, x => by cases x; exact .int _
  | .str _, _, x => by cases x; exact .str _
  | .list ds, _, x => by
    cases x with
    | lst n s a => exact .lst (h _ n) (k _ _ n s) (dqa_to h k ds _ a)
  | .tuple ds, _, x => by
    cases x with
    | tup n s a => exact .tup (h _ n) (k _ _ n s) (dqa_to h k ds _ a)
  | .dict _, _, x => by cases x
theorem dqa_to (h : ∀ a, N a → N' a) (k : ∀ a o, N a → H a = some o → H' a = some o) : ∀ (ds : List PyData) (vs : List V), DqAll N H vs ds → DqAll N' H' vs ds
  | [], _, x => by cases x; exact .nil
  | d :: ds, _, x => by
    cases x with
    | cons a b => exact .cons (dq_to h k d _ a) (dqa_to h k ds _ b)
end
mutual
theorem dq_dp : ∀ (d : PyData) (v : V), Dq N H v d → Dp K H v d
  | .none, _, x => by cases x; exact .non
  | .bool _, _, x => by cases x; exact .bl _
  | .int _, _, x => by cases x; exact .int _
  | .str _, _, x => by cases x; exact .str _
  | .list ds, _, x => by
    cases x with
    | lst n s a => exact .lst (sq_of s) (dqa_dpa ds _ a)
  | .tuple ds, _, x => by
    cases x with
    | tup n s a => exact .tup (st_of s) (dqa_dpa ds _ a)
  | .dict _, _, x => by cases x
theorem dqa_dpa : ∀ (ds : List PyData) (vs : List V), DqAll N H vs ds → DpAll K H vs ds
  | [], _, x => by cases x; exact .nil
  | d :: ds, _, x => by
    cases x with
    | cons a b => exact .cons (dq_dp d _ a) (dqa_dpa ds _ b)
end
theorem dqa_app : ∀ {vs ws : List V} {ds es : List PyData}, DqAll N H vs ds → DqAll N H ws es → DqAll N H (vs ++ ws) (ds ++ es)
  | _, _, _, _, .nil, h => h
  | _, _, _, _, .cons a b, h => .cons a (dqa_app b h)
theorem dqa_len : ∀ {vs : List V} {ds : List PyData}, DqAll N H vs ds → vs.length = ds.length
  | _, _, .nil => rfl
  | _, _, .cons _ b => by rw [List.length_cons, List.length_cons, dqa_len b]
theorem dqa_ints : ∀ ns : List Int, DqAll N H (ns.map V.int) (ns.map PyData.int)
  | [] => .nil
  | n :: r => .cons (.int n) (dqa_ints r)
theorem dq_LI {a : Addr} {l : List Int} (n : N a) (h : H a = some (.lst (l.map V.int))) : Dq N H (.ref a) (LI l) := .lst n h (dqa_ints l)
end
/-- new since H -/
def New (H : Hp) (a : Addr) : Prop := H a = none
/-- all but p and wd as it was -/
def Oth2 (p wd : Addr) (H H' : Hp) : Prop := ∀ a o, a ≠ p → a ≠ wd → H a = some o → H' a = some o
theorem Oth2.refl (p wd : Addr) (H : Hp) : Oth2 p wd H H := fun _ _ _ _ h => h
theorem Oth2.trans {p wd : Addr} {H H1 H2 : Hp} (a : Oth2 p wd H H1) (b : Oth2 p wd H1 H2) : Oth2 p wd H H2 := fun c o n m h => b c o n m (a c o n m h)
theorem Oth2.of {p wd : Addr} {H H1 : Hp} (a : Ex H H1) : Oth2 p wd H H1 := fun c o _ _ h => a c o h
theorem Oth2.one {p wd : Addr} {H H1 : Hp} (a : Oth p H H1) : Oth2 p wd H H1 := fun c o n _ h => a c o n h
theorem new_back {p : Addr} {H H1 : Hp} {a : Addr} (o : Oth p H H1) (hp : ∃ u, H1 p = some u) (h : New H1 a) : New H a := by
  obtain ⟨u, hu⟩ := hp
  have hap : a ≠ p := fun z => by rw [z] at h; unfold New at h; rw [hu] at h; cases h
  unfold New at *
  cases e : H a with
  | none => rfl
  | some w => rw [o _ _ hap e] at h; cases h
theorem new_ne {H : Hp} {a p : Addr} (h : New H a) (hp : ∃ u, H p = some u) : a ≠ p := fun z => by
  obtain ⟨u, hu⟩ := hp
  unfold New at h
  rw [z, hu] at h; cases h
theorem new_back2 {p wd : Addr} {H H1 : Hp} {a : Addr} (o : Oth2 p wd H H1) (hp : ∃ u, H1 p = some u) (hw : ∃ u, H1 wd = some u) (h : New H1 a) : New H a := by
  have h1 := new_ne h hp
  have h2 := new_ne h hw
  unfold New at *
  cases e : H a with
  | none => rfl
  | some w => rw [o _ _ h1 h2 e] at h; cases h
/-- the counts of a body that is being made -/
structure World3 (H : Hp) (wd q : Addr) (c m room : Nat) : Prop where
  hw : H wd = some (.lst [.int (c : Int), .int (m : Int), .int (room : Int)])
  ne : wd ≠ q
theorem World3.nep {H : Hp} {wd p q : Addr} {c m room : Nat} (w : World3 H wd q c m room) (x : Pool H p q) : wd ≠ p := by
  obtain ⟨i, b, t, s, cs, x⟩ := x
  exact ne_of w.hw x.hp fun e => by
    have := congrArg List.length (HO.lst.inj e)
    cases this
theorem World3.one {H H' : Hp} {wd p q : Addr} {c m room : Nat} (w : World3 H wd q c m room) (x : Pool H p q) (o : Oth p H H') : World3 H' wd q c m room := ⟨o _ _ (w.nep x) w.hw, w.ne⟩
theorem World3.ex {H H' : Hp} {wd q : Addr} {c m room : Nat} (w : World3 H wd q c m room) (o : Ex H H') : World3 H' wd q c m room := ⟨o _ _ w.hw, w.ne⟩
abbrev s_law_row : Stmt := topS 38
theorem sc_law_row : FnScope ["pool", "cells", "row", "k", "wide"] ["pool", "cells"] (defScope s_law_row) := ⟨rfl, rfl, rfl, by decide +kernel, rfl, by decide +kernel, by decide +kernel⟩
abbrev s_law_command : Stmt := topS 39
theorem sc_law_command : FnScope ["pool", "cells", "at"] ["pool", "cells"] (defScope s_law_command) := ⟨rfl, rfl, rfl, by decide +kernel, rfl, by decide +kernel, by decide +kernel⟩
abbrev s_law_some_cells : Stmt := topS 40
theorem sc_law_some_cells : FnScope ["pool", "cells", "cell", "k"] ["pool", "cells"] (defScope s_law_some_cells) := ⟨rfl, rfl, rfl, by decide +kernel, rfl, by decide +kernel, by decide +kernel⟩
section
variable {P : Program} {w : World} {K : PySem.W.Frag} {mg : Str → Option Value} {base : Heap}
def spRow : Sp := fun vs H Q _ => ∃ (p q : Addr) (c : Nat), vs = [.ref p, .int (c : Int)] ∧ c ≤ 3 ∧ Pool H p q ∧ ∀ (r : List Int) (D : Addr) (H' : Hp), okR c r → H D = none → Oth p H H' → Pool H' p q → H' D = some (.lst (r.map V.int)) → Q (.ref D) H'
theorem ok_row {f : Addr} {fd : FuncData} {k : Nat} (F : Fun K "_law_row" "_law_row" s_law_row f fd) (z_range : mg "range" = none) (C_law_draw : Cal P w K mg base 1 "_law_draw" spDraw []) (hk : 1 ≤ k) : FnOk P w K mg base CX0 (k + 1) f fd ["pool", "cells"] spRow := by
  have sc := sc_law_row
  refine F.ok sc (fun vs H Q E h => ?_) (fun cdv A outer s H vs Q E hr h => ?_)
  · obtain ⟨p, q0, c, rfl, _⟩ := h
    rfl
  · obtain ⟨p, q0, c, rfl, h3, x, q⟩ := h
    refine ⟨_, (pss_cons (ps_set (i := 2) sc.nd rfl (by first | exact Or.inl rfl | exact Or.inr rfl) (pe_lst pa_nil))
      (pss_cons (ps_for PassesOwn.never rfl (pi_range1 (by rfl) z_range (pa_cons (pe_op op_add (pv 1) pe_int) pa_nil)) (pg_name (i := 3) sc.nd rfl (by first | exact Or.inl rfl | exact Or.inr rfl))
      (pss_cons (ps_set (i := 4) sc.nd rfl (by first | exact Or.inl rfl | exact Or.inr rfl) (pe_c C_law_draw hr (by omega) (by rfl) (pa_cons (pv 0) (pa_cons pe_int pa_nil))))
      (pss_one (ps_if (pt_cmpR op_eq (pv 4) pe_int (nomark _))
      (pss_one (ps_expr (pe_bm PySem.F.plainAttrs_list PySem.F.slot_list_append PySem.F.type_list_append mt_append (pv 2) (pa_cons (pe_op op_sub (pe_c C_law_draw hr (by omega) (by rfl) (pa_cons (pv 0) (pa_cons pe_int pa_nil))) pe_int) pa_nil))))
      (pss_one (ps_expr (pe_bm PySem.F.plainAttrs_list PySem.F.slot_list_append PySem.F.type_list_append mt_append (pv 2) (pa_cons (pe_op op_sub (pe_c C_law_draw hr (by omega) (by rfl) (pa_cons (pv 0) (pa_cons pe_int pa_nil))) pe_int) pa_nil))))))))
      (pss_one (ps_ret (pv 2))))), ?_⟩
    refine q_asgL (el_lst ea_nil (by decide)) fun F0 H1 nF e1 hF => ?_
    have Fp : F0 ≠ p := new_ne nF x.isP
    have Fq : F0 ≠ q0 := new_ne nF x.isQ
    refine q_forR1 (n := ((c + 2 : Nat) : Int)) (ea_cons (ev_is (ev_op (ev_var rfl) ev_c rv_I0) (by rw [Int.natCast_add]; rfl)) ea_nil) ⟨by omega, by omega⟩
      (fun i σ' H' => ∃ (r : List Int) (y3 y4 : Option V), σ' = [some (.ref p), some (.int (c : Int)), some (.ref F0), y3, y4] ∧ r.length = i ∧ (∀ z ∈ r, -9 ≤ z ∧ z ≤ 9) ∧ Oth p H H' ∧ Pool H' p q0 ∧ H' F0 = some (.lst (r.map V.int)))
      (fun H2 e2 => ⟨[], _, _, rfl, rfl, fun _ h => (nomatch h), .of (e1.trans e2), x.ex (e1.trans e2), e2 _ _ hF⟩) (fun i σ' H' hi hW => ?_) (fun σ' H' hW => ?_)
    · obtain ⟨r, y3, y4, rfl, rfl, hb, o, x, hF⟩ := hW
      have add : ∀ (z : Int) (H3 : Hp), -9 ≤ z → z ≤ 9 → Oth p H' H3 → Pool H3 p q0 → ∃ acc, H3 F0 = some (.lst acc) ∧ acc = r.map V.int ∧ ∃ (r' : List Int), acc ++ [V.int z] = r'.map V.int ∧ r'.length = r.length + 1 ∧ (∀ y ∈ r', -9 ≤ y ∧ y ≤ 9) ∧ Oth p H (upd H3 F0 (.lst (acc ++ [V.int z]))) ∧ Pool (upd H3 F0 (.lst (acc ++ [V.int z]))) p q0 := fun z H3 z0 z9 o3 x3 => by
        refine ⟨_, o3 _ _ Fp hF, rfl, r ++ [z], by rw [List.map_append]; rfl, by simp, fun y hy => ?_, fun a u na ha => ?_, x3.upd Fp Fq⟩
        · rcases List.mem_append.mp hy with hy | hy
          · exact hb y hy
          · rw [List.mem_singleton.mp hy]; exact ⟨z0, z9⟩
        · rw [upd_ne (ne_of_none ha nF)]
          exact o3 _ _ na (o _ _ na ha)
      refine q_run ?_
      refine ⟨.ref p, rfl, p, q0, 4, rfl, by decide, by decide, x, fun wd H2 w0 w4 o2 x2 => ?_⟩
      refine ⟨.int wd, rfl, rfl, _, rfl, ite2 (fun _ => ?_) (fun _ => ?_)⟩
      · refine ⟨.ref F0, rfl, .inl ⟨rfl, _, sq_of (o2 _ _ Fp hF)⟩, .ref p, rfl, p, q0, 19, rfl, by decide, by decide, x2, fun z H3 z0 z1 o3 x3 => ?_⟩
        obtain ⟨acc, hacc, ea, r', er, lr, br, oo, xx⟩ := add (z - 9) H3 (by omega) (by omega) (o2.trans o3) x3
        refine ⟨z, 9, rfl, rfl, F0, acc, _, rfl, rfl, hacc, ?_, r', _, _, rfl, lr, br, oo, xx, ?_⟩
        · rw [ea, List.length_map]; exact sz_lt (by omega)
        · rw [upd_same, er]
      · refine ⟨.ref F0, rfl, .inl ⟨rfl, _, sq_of (o2 _ _ Fp hF)⟩, .ref p, rfl, p, q0, 3, rfl, by decide, by decide, x2, fun z H3 z0 z1 o3 x3 => ?_⟩
        obtain ⟨acc, hacc, ea, r', er, lr, br, oo, xx⟩ := add (z - 1) H3 (by omega) (by omega) (o2.trans o3) x3
        refine ⟨z, 1, rfl, rfl, F0, acc, _, rfl, rfl, hacc, ?_, r', _, _, rfl, lr, br, oo, xx, ?_⟩
        · rw [ea, List.length_map]; exact sz_lt (by omega)
        · rw [upd_same, er]
    · obtain ⟨r, y3, y4, rfl, lr, hb, o, x, hF⟩ := hW
      refine s_ret (ev_var rfl) fun H2 e2 => q r F0 H2 ⟨by omega, hb⟩ nF (o.trans (.of e2)) (x.ex e2) (e2 _ _ hF)
/-- a command -/
def isCmd (c : Nat) : Stm → Prop
  | .set k r => k < c ∧ okR c r
  | .carry r => okR c r
  | _ => False
theorem isCmd_ok {c m lv : Nat} {s : Stm} (h : isCmd c s) : okS c m s lv ∧ cnt s = 1 := by
  cases s with
  | set k r => rw [okS, cnt]; exact ⟨h, rfl⟩
  | carry r => rw [okS, cnt]; exact ⟨h, rfl⟩
  | _ => exact h.elim
def spCmd : Sp := fun vs H Q _ => ∃ (p q : Addr) (c : Nat), vs = [.ref p, .int (c : Int)] ∧ 1 ≤ c ∧ c ≤ 3 ∧ Pool H p q ∧ ∀ (s : Stm) (v : V) (H' : Hp), isCmd c s → Oth p H H' → Pool H' p q → Dq (New H) H' v (toD s) → Q v H'
theorem ok_command {f : Addr} {fd : FuncData} {k : Nat} (F : Fun K "_law_command" "_law_command" s_law_command f fd) (C_law_draw : Cal P w K mg base 1 "_law_draw" spDraw []) (C_law_row : Cal P w K mg base 2 "_law_row" spRow []) (hk : 2 ≤ k) : FnOk P w K mg base CX0 (k + 1) f fd ["pool", "cells"] spCmd := by
  have sc := sc_law_command
  refine F.ok sc (fun vs H Q E h => ?_) (fun cdv A outer s H vs Q E hr h => ?_)
  · obtain ⟨p, q0, c, rfl, _⟩ := h
    rfl
  · obtain ⟨p, q0, c, rfl, h1, h3, x, q⟩ := h
    refine ⟨_, (pss_cons (ps_set (i := 2) sc.nd rfl (by first | exact Or.inl rfl | exact Or.inr rfl) (pe_c C_law_draw hr (by omega) (by rfl) (pa_cons (pv 0) (pa_cons (pe_op op_add (pv 1) pe_int) pa_nil))))
      (pss_cons (ps_if (pt_cmpR op_eq (pv 2) (pv 1) (nomark _))
      (pss_one (ps_ret (pe_tup (pa_cons pe_str (pa_cons (pe_c C_law_row hr (by omega) (by rfl) (pa_cons (pv 0) (pa_cons (pv 1) pa_nil))) pa_nil)))))
      pss_nil)
      (pss_one (ps_ret (pe_tup (pa_cons pe_str (pa_cons (pv 2) (pa_cons (pe_c C_law_row hr (by omega) (by rfl) (pa_cons (pv 0) (pa_cons (pv 1) pa_nil))) pa_nil)))))))), ?_⟩
    refine q_run ?_
    refine ⟨.ref p, rfl, .int (c : Int), rfl, (c : Int), 1, rfl, rfl, p, q0, (c : Int) + 1, rfl, by omega, Nat.lt_of_le_of_lt (show ((c : Int) + 1).natAbs ≤ 4 by omega) (by decide), x, fun z H2 z0 z1 o2 x2 => ?_⟩
    refine ⟨.int z, rfl, .int (c : Int), rfl, rfl, _, rfl, ite2 (fun _ => ?_) (fun hz => ?_)⟩
    · refine ⟨.ref p, rfl, .int (c : Int), rfl, p, q0, c, rfl, h3, x2, fun r D H3 hr nD o3 x3 hD => ?_⟩
      refine ⟨by show 2 ≤ sizeLine; decide, fun T nT => q (.carry r) _ _ hr (o2.trans (o3.trans (.of (Ex.new nT)))) (x3.ex (Ex.new nT)) ?_⟩
      rw [toD]
      have nD0 : New H D := new_back o2 x2.isP nD
      exact .tup (new_back (o2.trans o3) x3.isP nT) upd_same (.cons (.str _) (.cons (dq_LI nD0 (Ex.new nT _ _ hD)) .nil))
    · have hne : z ≠ (c : Int) := fun e => hz (by rw [e]; exact decide_eq_true rfl)
      obtain ⟨kk, rfl⟩ : ∃ kk : Nat, z = (kk : Int) := ⟨z.toNat, by omega⟩
      refine ⟨.int (kk : Int), rfl, .ref p, rfl, .int (c : Int), rfl, p, q0, c, rfl, h3, x2, fun r D H3 hr nD o3 x3 hD => ?_⟩
      refine ⟨by show 3 ≤ sizeLine; decide, fun T nT => q (.set kk r) _ _ ⟨by omega, hr⟩ (o2.trans (o3.trans (.of (Ex.new nT)))) (x3.ex (Ex.new nT)) ?_⟩
      rw [toD]
      have nD0 : New H D := new_back o2 x2.isP nD
      exact .tup (new_back (o2.trans o3) x3.isP nT) upd_same (.cons (.str _) (.cons (.int _) (.cons (dq_LI nD0 (Ex.new nT _ _ hD)) .nil)))
def spCells : Sp := fun vs H Q _ => ∃ (p q : Addr) (c : Nat), vs = [.ref p, .int (c : Int)] ∧ c ≤ 3 ∧ Pool H p q ∧ ∀ (cs : List Nat) (D : Addr) (H' : Hp), asc c cs → H D = none → Oth p H H' → Pool H' p q → H' D = some (.lst ((cs.map (Nat.cast : Nat → Int)).map V.int)) → Q (.ref D) H'
theorem asc_step {i : Nat} {cs : List Nat} (h : asc i cs) : asc (i + 1) (cs ++ [i]) ∧ asc (i + 1) cs := by
  refine ⟨⟨?_, fun k hk => ?_⟩, h.1, fun k hk => Nat.lt_succ_of_lt (h.2 k hk)⟩
  · rw [List.pairwise_append]
    exact ⟨h.1, by simp, fun a ha b hb => by rw [List.mem_singleton.mp hb]; exact h.2 a ha⟩
  · rcases List.mem_append.mp hk with hk | hk
    · exact Nat.lt_succ_of_lt (h.2 k hk)
    · rw [List.mem_singleton.mp hk]; exact Nat.lt_succ_self _
theorem ok_cells {f : Addr} {fd : FuncData} {k : Nat} (F : Fun K "_law_some_cells" "_law_some_cells" s_law_some_cells f fd) (z_range : mg "range" = none) (C_law_draw : Cal P w K mg base 1 "_law_draw" spDraw []) (hk : 1 ≤ k) : FnOk P w K mg base CX0 (k + 1) f fd ["pool", "cells"] spCells := by
  have sc := sc_law_some_cells
  refine F.ok sc (fun vs H Q E h => ?_) (fun cdv A outer s H vs Q E hr h => ?_)
  · obtain ⟨p, q0, c, rfl, _⟩ := h
    rfl
  · obtain ⟨p, q0, c, rfl, h3, x, q⟩ := h
    refine ⟨_, (pss_one (ps_ret (pe_lc (own := [("cell", 2)]) (by rfl) sc.nd (pi_list (pe_lc (own := [("k", 3)]) (by rfl) sc.nd (pi_range1 (by rfl) z_range (pa_cons (pv 1) pa_nil)) (blkOk_by (own := [("k", 3)]) (N := ["pool", "cells", "cell", "k"]) (sc := defScope s_law_some_cells) (by decide +kernel)) (fun _ _ _ _ _ => (pg_name (i := 3) sc.nd rfl (by first | exact Or.inl rfl | exact Or.inr rfl))) (fun _ _ _ _ _ => pts_nil) (fun _ _ _ _ _ => (pv 3)))) (blkOk_by (own := [("cell", 2)]) (N := ["pool", "cells", "cell", "k"]) (sc := defScope s_law_some_cells) (by decide +kernel)) (fun _ _ _ _ _ => (pg_name (i := 2) sc.nd rfl (by first | exact Or.inl rfl | exact Or.inr rfl))) (fun _ _ _ _ _ => (pts_one (pt_cmpR op_eq (pe_c C_law_draw hr (by omega) (by rfl) (pa_cons (pv 0) (pa_cons pe_int pa_nil))) pe_int (nomark _)))) (fun _ _ _ _ _ => (pv 2))))), ?_⟩
    refine s_retR (lc_new (el_rng (n := c) (fun i => .int (i : Int)) (ea_cons (ev_var rfl) ea_nil) (by omega) (fun _ => rfl) (fun i H1 e1 hi => ev_var rfl)) fun L H1 nL e1 hL D nD => ?_)
    have x1 := x.ex e1
    have Dp1 : D ≠ p := new_ne nD x1.isP
    have Dq1 : D ≠ q0 := new_ne nD x1.isQ
    have DL : L ≠ D := ne_of_none hL nD
    have Lp : L ≠ p := new_ne nL x.isP
    refine lc_list (xs := (List.range c).map fun (i : Nat) => V.int (i : Int)) (fun i H' => ∃ cs : List Nat, asc i cs ∧ cs.length ≤ i ∧ Oth p H1 H' ∧ Pool H' p q0 ∧ H' D = some (.lst ((cs.map (Nat.cast : Nat → Int)).map V.int)))
      ⟨[], ⟨.nil, fun _ h => (nomatch h)⟩, Nat.le_refl _, .of (Ex.new nD), x1.ex (Ex.new nD), upd_same⟩ (fun i H' _ hP => ?_) (fun i v H' hi hP => ?_) (fun H' hP => ?_)
    · obtain ⟨cs, _, _, o, _⟩ := hP
      exact sq_of (o _ _ Lp hL)
    · obtain ⟨cs, ha, hlen, o, x2, hD⟩ := hP
      have hic : i < c := by
        have := (List.getElem?_eq_some_iff.mp hi).1
        rw [List.length_map, List.length_range] at this
        exact this
      rw [List.getElem?_map, List.getElem?_range hic] at hi
      have hv : V.int (i : Int) = v := Option.some.inj hi
      subst hv
      show wipe ((wipe _ _).set 2 (some (.int (i : Int)))) _ = wipe _ _ ∧ _
      refine ⟨rfl, .ref p, rfl, p, q0, 2, rfl, by decide, by decide, x2, fun z H3 z0 z1 o3 x3 => ?_⟩
      refine ⟨rfl, _, rfl, ite2 (fun _ => ?_) (fun _ => ?_)⟩
      · refine ⟨.int (i : Int), rfl, _, o3 _ _ Dp1 hD, ?_, cs ++ [i], (asc_step ha).1, by simp; omega, fun a u na hu => ?_, x3.upd Dp1 Dq1, ?_⟩
        · rw [List.length_map, List.length_map]; exact sz_lt (by omega)
        · rw [upd_ne (ne_of_none hu nD)]
          exact o3 _ _ na (o _ _ na hu)
        · rw [upd_same, List.map_append, List.map_append]; rfl
      · exact ⟨cs, (asc_step ha).2, by omega, o.trans o3, x3, o3 _ _ Dp1 hD⟩
    · obtain ⟨cs, ha, hlen, o, x2, hD⟩ := hP
      rw [List.length_map, List.length_range] at ha
      exact q cs D H' ha (fresh_back e1 nD) ((Oth.of e1).trans o) x2 hD
end
abbrev s_law_block : Stmt := topS 41
theorem sc_law_block : FnScope ["pool", "world", "tier", "most", "found", "k"] ["pool", "world", "tier", "most"] (defScope s_law_block) := ⟨rfl, rfl, rfl, by decide +kernel, rfl, by decide +kernel, by decide +kernel⟩
abbrev s_law_statement : Stmt := topS 42
theorem sc_law_statement : FnScope ["pool", "world", "tier", "kind", "cells", "procedure", "row", "first", "kept"] ["pool", "world", "tier"] (defScope s_law_statement) := ⟨rfl, rfl, rfl, by decide +kernel, rfl, by decide +kernel, by decide +kernel⟩
abbrev s_law_body : Stmt := topS 43
theorem sc_law_body : FnScope ["pool", "cells", "many", "room", "tier", "world", "body"] ["pool", "cells", "many", "room", "tier"] (defScope s_law_body) := ⟨rfl, rfl, rfl, by decide +kernel, rfl, by decide +kernel, by decide +kernel⟩
abbrev s_law_bodies : Stmt := topS 44
theorem sc_law_bodies : FnScope ["pool", "cells", "many", "room", "k"] ["pool", "cells", "many", "room"] (defScope s_law_bodies) := ⟨rfl, rfl, rfl, by decide +kernel, rfl, by decide +kernel, by decide +kernel⟩
section
variable {P : Program} {w : World} {K : PySem.W.Frag} {mg : Str → Option Value} {base : Heap}
/-- a statement at the level t -/
def spStmt (t : Nat) : Sp := fun vs H Q _ => ∃ (p q wd : Addr) (c m room : Nat), vs = [.ref p, .ref wd, .int (t : Int)] ∧ t ≤ 3 ∧ 1 ≤ c ∧ c ≤ 3 ∧ 1 ≤ m ∧ m ≤ 3 ∧ Pool H p q ∧ World3 H wd q c m room ∧
  ∀ (s : Stm) (v : V) (room' : Nat) (H' : Hp), okS c m s t → room' + cnt s = room + 1 → Oth2 p wd H H' → Pool H' p q → World3 H' wd q c m room' → Dq (New H) H' v (toD s) → Q v H'
/-- a block at the level t -/
def spBlk (t : Nat) : Sp := fun vs H Q _ => ∃ (p q wd : Addr) (c m room most : Nat), vs = [.ref p, .ref wd, .int (t : Int), .int (most : Int)] ∧ t ≤ 3 ∧ most ≤ 3 ∧ 1 ≤ c ∧ c ≤ 3 ∧ 1 ≤ m ∧ m ≤ 3 ∧ Pool H p q ∧ World3 H wd q c m room ∧
  ∀ (b : List Stm) (v : V) (room' : Nat) (H' : Hp), okL c m b t → b.length ≤ most → room' + cntL b = room → Oth2 p wd H H' → Pool H' p q → World3 H' wd q c m room' → Dq (New H) H' v (.list (toDs b)) → Q v H'
theorem ev_w {σ : L2.St} {H : Hp} {wd q : Addr} {c m room : Nat} {te : TE} (h : Ev te σ H (.ref wd)) (x : World3 H wd q c m room) : Ev (tOp (rIxL K) te (tC (.int 2))) σ H (.int (room : Int)) ∧ Ev (tOp (rIxL K) te (tC (.int 0))) σ H (.int (c : Int)) ∧ Ev (tOp (rIxL K) te (tC (.int 1))) σ H (.int (m : Int)) :=
  ⟨ev_op h ev_c (rv_ixL (sq_of x.hw) (atI_nat (j := 2) rfl)), ev_op h ev_c (rv_ixL (sq_of x.hw) (atI_nat (j := 0) rfl)), ev_op h ev_c (rv_ixL (sq_of x.hw) (atI_nat (j := 1) rfl))⟩
theorem pool_isW {H : Hp} {wd q : Addr} {c m room : Nat} (x : World3 H wd q c m room) : ∃ u, H wd = some u := ⟨_, x.hw⟩
theorem ok_block {f : Addr} {fd : FuncData} {k t : Nat} (F : Fun K "_law_block" "_law_block" s_law_block f fd) (z_range : mg "range" = none) (C_law_draw : Cal P w K mg base 1 "_law_draw" spDraw []) (C_law_statement : Cal P w K mg base k "_law_statement" (spStmt t) []) (hk : 1 ≤ k) :
    FnOk P w K mg base CX0 (k + 1) f fd ["pool", "world", "tier", "most"] (spBlk t) := by
  have sc := sc_law_block
  refine F.ok sc (fun vs H Q E h => ?_) (fun cdv A outer s H vs Q E hr h => ?_)
  · obtain ⟨p, q0, wd, c, m, room, most, rfl, _⟩ := h
    rfl
  · obtain ⟨p, q0, wd, c, m, room, most, rfl, ht, hmost, c1, c3, m1, m3, x, W, q⟩ := h
    refine ⟨_, (pss_cons (ps_set (i := 4) sc.nd rfl (by first | exact Or.inl rfl | exact Or.inr rfl) (pe_lst pa_nil))
      (pss_cons (ps_for PassesOwn.never rfl (pi_range1 (by rfl) z_range (pa_cons (pe_c C_law_draw hr (by omega) (by rfl) (pa_cons (pv 0) (pa_cons (pe_op op_add (pv 3) pe_int) pa_nil))) pa_nil)) (pg_name (i := 5) sc.nd rfl (by first | exact Or.inl rfl | exact Or.inr rfl))
      (pss_one (ps_if (pt_cmpR op_gt (pe_ix ix_list (pv 1) pe_int (fun _ _ => rfl)) pe_int (nomark _))
      (pss_cons (ps_asg (pe_op op_sub (pe_ix ix_list (pv 1) pe_int (fun _ _ => rfl)) pe_int) (pg_sub (pv 1) pe_int set_list))
      (pss_one (ps_expr (pe_bm PySem.F.plainAttrs_list PySem.F.slot_list_append PySem.F.type_list_append mt_append (pv 4) (pa_cons (pe_c C_law_statement hr (by omega) (by rfl) (pa_cons (pv 0) (pa_cons (pv 1) (pa_cons (pv 2) pa_nil)))) pa_nil)))))
      pss_nil)))
      (pss_one (ps_ret (pv 4))))), ?_⟩
    refine q_asgL (el_lst ea_nil (by decide)) fun F0 H1 nF e1 hF => ?_
    have x1 := x.ex e1
    have W1 := W.ex e1
    have Fp : F0 ≠ p := new_ne nF x.isP
    have Fq : F0 ≠ q0 := new_ne nF x.isQ
    have Fw : F0 ≠ wd := new_ne nF (pool_isW W)
    -- the loop's length is drawn
    refine ⟨.ref p, rfl, .int (most : Int), rfl, (most : Int), 1, rfl, rfl, p, q0, (most : Int) + 1, rfl, by omega, Nat.lt_of_le_of_lt (show ((most : Int) + 1).natAbs ≤ 4 by omega) (by decide), x1, fun z H2 z0 z1 o2 x2 => ⟨z, rfl, by omega, by omega, ?_⟩⟩
    have e12 : Oth2 p wd H H2 := (Oth2.of e1).trans (.one o2)
    refine for_range (lo := 0) (n := z.toNat) (g := gName 5) (D := { nx := tRet (tVar 4) { nx := fun _ H' => Q .non H', rt := Q }, rt := Q }) (fun i σ' H' => ∃ (b : List Stm) (y5 : Option V) (room' : Nat) (xs : List V), σ' = [some (.ref p), some (.ref wd), some (.int (t : Int)), some (.int (most : Int)), some (.ref F0), y5] ∧ okL c m b t ∧ b.length ≤ i ∧ room' + cntL b = room ∧ Oth2 p wd H H' ∧ Pool H' p q0 ∧ World3 H' wd q0 c m room' ∧ H' F0 = some (.lst xs) ∧ DqAll (fun a => New H a ∧ a ≠ F0) H' xs (toDs b))
      ⟨[], none, room, [], rfl, by rw [okL]; trivial, Nat.le_refl _, by rw [cntL]; rfl, e12, x2, W1.one x1 o2, o2 _ _ Fp hF, by rw [toDs]; exact .nil⟩ (fun i σ' H' hi hP => ?_) (fun σ' H' hP => ?_)
    · obtain ⟨b, y5, room', xs, rfl, hok, hlen, hroom, o, x', W', hF', hd⟩ := hP
      have i4 : i < 4 := by omega
      have lx : xs.length = b.length := by rw [dqa_len hd, toDs_len]
      refine s_when (et_test (ev_op (ev_w (ev_var rfl) W').1 ev_c rv_I0)) (fun hb H3 e3 => ?_) (fun hb H3 e3 => ?_)
      · have hpos : (0 : Int) < (room' : Int) := of_decide_eq_true hb
        obtain ⟨r1, rfl⟩ : ∃ r1, room' = r1 + 1 := ⟨room' - 1, by omega⟩
        have x3 := x'.ex e3
        have W3 := W'.ex e3
        have wp := W3.nep x3
        refine q_setL (j := 2) (v := .int (r1 : Int)) W3.hw (ev_is (ev_op (ev_w (ev_var rfl) W3).1 ev_c rv_I0) (congrArg V.int (by omega))) (ev_var rfl) ev_c (by show 2 < 3; decide) fun H4 e4 => ?_
        have x4 : Pool (upd H4 wd (.lst [.int (c : Int), .int (m : Int), .int (r1 : Int)])) p q0 := (x3.ex e4).upd wp W3.ne
        have W4 : World3 (upd H4 wd (.lst [.int (c : Int), .int (m : Int), .int (r1 : Int)])) wd q0 c m r1 := ⟨upd_same, W3.ne⟩
        have o4 : Oth2 p wd H (upd H4 wd (.lst [.int (c : Int), .int (m : Int), .int (r1 : Int)])) := fun a u n1 n2 ha => by
          rw [upd_ne n2]
          exact e4 _ _ (e3 _ _ (o a u n1 n2 ha))
        have hF4 : (upd H4 wd (.lst [.int (c : Int), .int (m : Int), .int (r1 : Int)])) F0 = some (.lst xs) := by
          rw [upd_ne Fw]
          exact e4 _ _ (e3 _ _ hF')
        have hd4 : DqAll (fun a => New H a ∧ a ≠ F0) (upd H4 wd (.lst [.int (c : Int), .int (m : Int), .int (r1 : Int)])) xs (toDs b) := dqa_to (fun _ h => h) (fun a u n ha => by
          rw [upd_ne (new_ne n.1 (pool_isW W))]
          exact e4 _ _ (e3 _ _ ha)) _ _ hd
        refine ⟨.ref F0, rfl, .inl ⟨rfl, _, sq_of hF4⟩, .ref p, rfl, .ref wd, rfl, .int (t : Int), rfl, p, q0, wd, c, m, r1, rfl, ht, c1, c3, m1, m3, x4, W4, fun s v r2 H6 oks hc o6 x6 W6 dq => ?_⟩
        have hF6 := o6 _ _ Fp Fw hF4
        refine ⟨F0, xs, v, rfl, rfl, hF6, sz_lt (by omega), b ++ [s], _, r2, xs ++ [v], rfl, okL_app hok (by rw [okL, okL]; exact ⟨oks, trivial⟩), by simp; omega, ?_, fun a u n1 n2 ha => ?_, x6.upd Fp Fq, ⟨by rw [upd_ne Fw.symm]; exact W6.hw, W6.ne⟩, upd_same, ?_⟩
        · rw [cntL_app, cntL, cntL]; omega
        · rw [upd_ne (ne_of_none ha nF)]
          exact o6 _ _ n1 n2 (o4 _ _ n1 n2 ha)
        · rw [toDs_app]
          refine dqa_app (dqa_to (fun _ h => h) (fun a u n ha => ?_) _ _ hd4) ?_
          · rw [upd_ne n.2]
            exact o6 _ _ (new_ne n.1 x.isP) (new_ne n.1 (pool_isW W)) ha
          · rw [toDs, toDs]
            exact .cons (dq_to (fun a n => ⟨new_back2 o4 x4.isP (pool_isW W4) n, new_ne n ⟨_, hF4⟩⟩) (fun a u n ha => by rw [upd_ne (new_ne n ⟨_, hF4⟩)]; exact ha) _ _ dq) .nil
      · exact ⟨b, _, room', xs, rfl, hok, by omega, hroom, o.trans (.of e3), x'.ex e3, W'.ex e3, e3 _ _ hF', dqa_to (fun _ h => h) (fun a u n ha => e3 _ _ ha) _ _ hd⟩
    · obtain ⟨b, y5, room', xs, rfl, hok, hlen, hroom, o, x', W', hF', hd⟩ := hP
      refine s_ret (ev_var rfl) fun H3 e3 => q b (.ref F0) room' H3 hok (by omega) hroom (o.trans (.of e3)) (x'.ex e3) (W'.ex e3) (.lst nF (e3 _ _ hF') (dqa_to (fun _ h => h.1) (fun a u n ha => e3 _ _ ha) _ _ hd))
theorem dq_later {p wd : Addr} {H Hk H' H'' : Hp} {v : V} {d : PyData} (hp : ∃ u, Hk p = some u) (hw : ∃ u, Hk wd = some u) (o0 : Oth2 p wd H Hk) (o : Oth2 p wd H' H'') (x : Dq (New Hk) H' v d) : Dq (New H) H'' v d :=
  dq_to (fun _ n => new_back2 o0 hp hw n) (fun a u n ha => o _ _ (new_ne n hp) (new_ne n hw) ha) _ _ x
theorem new_later {p wd : Addr} {H Hk : Hp} {a : Addr} (hp : ∃ u, Hk p = some u) (hw : ∃ u, Hk wd = some u) (o0 : Oth2 p wd H Hk) (n : Hk a = none) : New H a := new_back2 o0 hp hw n
theorem ok_statement {f : Addr} {fd : FuncData} {k t : Nat} (F : Fun K "_law_statement" "_law_statement" s_law_statement f fd) (C_law_draw : Cal P w K mg base 1 "_law_draw" spDraw []) (C_law_row : Cal P w K mg base 2 "_law_row" spRow []) (C_law_command : Cal P w K mg base 3 "_law_command" spCmd [])
    (C_law_some_cells : Cal P w K mg base 2 "_law_some_cells" spCells []) (C_law_block : Cal P w K mg base k "_law_block" (spBlk (t + 1)) []) (hk : 3 ≤ k) : FnOk P w K mg base CX0 (k + 1) f fd ["pool", "world", "tier"] (spStmt t) := by
  have sc := sc_law_statement
  refine F.ok sc (fun vs H Q E h => ?_) (fun cdv A outer s H vs Q E hr h => ?_)
  · obtain ⟨p, q0, wd, c, m, room, rfl, _⟩ := h
    rfl
  · obtain ⟨p, q0, wd, c, m, room, rfl, ht, c1, c3, m1, m3, x, W, q⟩ := h
    refine ⟨_, (pss_cons (ps_set (i := 3) sc.nd rfl (by first | exact Or.inl rfl | exact Or.inr rfl) (pe_c C_law_draw hr (by omega) (by rfl) (pa_cons (pv 0) (pa_cons pe_int pa_nil))))
      (pss_cons (ps_set (i := 4) sc.nd rfl (by first | exact Or.inl rfl | exact Or.inr rfl) (pe_ix ix_list (pv 1) pe_int (fun _ _ => rfl)))
      (pss_cons (ps_if (pt_cmpR op_eq (pv 3) pe_int (nomark _))
      (pss_one (ps_ret (pe_tup (pa_cons pe_str (pa_cons (pe_c C_law_draw hr (by omega) (by rfl) (pa_cons (pv 0) (pa_cons pe_int pa_nil))) pa_nil)))))
      pss_nil)
      (pss_cons (ps_if (PW.pt (pw_or (pt_cmpR op_lt (pv 3) pe_int (nomark _)) (pw_or1 (pt_cmpR op_gt (pv 2) pe_int (nomark _)))))
      (pss_one (ps_ret (pe_c C_law_command hr (by omega) (by rfl) (pa_cons (pv 0) (pa_cons (pv 4) pa_nil)))))
      pss_nil)
      (pss_cons (ps_if (pt_cmpR op_eq (pv 3) pe_int (nomark _))
      (pss_cons (ps_set (i := 8) sc.nd rfl (by first | exact Or.inl rfl | exact Or.inr rfl) (pe_c C_law_some_cells hr (by omega) (by rfl) (pa_cons (pv 0) (pa_cons (pv 4) pa_nil))))
      (pss_one (ps_ret (pe_tup (pa_cons pe_str (pa_cons (pv 8) (pa_cons (pe_c C_law_block hr (by omega) (by rfl) (pa_cons (pv 0) (pa_cons (pv 1) (pa_cons (pe_op op_add (pv 2) pe_int) (pa_cons pe_int pa_nil))))) pa_nil)))))))
      pss_nil)
      (pss_cons (ps_if (pt_cmpR op_eq (pv 3) pe_int (nomark _))
      (pss_cons (ps_set (i := 7) sc.nd rfl (by first | exact Or.inl rfl | exact Or.inr rfl) (pe_c C_law_block hr (by omega) (by rfl) (pa_cons (pv 0) (pa_cons (pv 1) (pa_cons (pe_op op_add (pv 2) pe_int) (pa_cons pe_int pa_nil))))))
      (pss_one (ps_ret (pe_tup (pa_cons pe_str (pa_cons (pv 7) (pa_cons (pe_c C_law_block hr (by omega) (by rfl) (pa_cons (pv 0) (pa_cons (pv 1) (pa_cons (pe_op op_add (pv 2) pe_int) (pa_cons pe_int pa_nil))))) pa_nil)))))))
      pss_nil)
      (pss_cons (ps_if (pt_cmpR op_eq (pv 3) pe_int (nomark _))
      (pss_one (ps_ret (pe_tup (pa_cons pe_str (pa_cons (pe_c C_law_block hr (by omega) (by rfl) (pa_cons (pv 0) (pa_cons (pv 1) (pa_cons (pe_op op_add (pv 2) pe_int) (pa_cons pe_int pa_nil))))) pa_nil)))))
      pss_nil)
      (pss_cons (ps_set (i := 5) sc.nd rfl (by first | exact Or.inl rfl | exact Or.inr rfl) (pe_c C_law_draw hr (by omega) (by rfl) (pa_cons (pv 0) (pa_cons (pe_ix ix_list (pv 1) pe_int (fun _ _ => rfl)) pa_nil))))
      (pss_cons (ps_set (i := 6) sc.nd rfl (by first | exact Or.inl rfl | exact Or.inr rfl) (pe_c C_law_row hr (by omega) (by rfl) (pa_cons (pv 0) (pa_cons (pv 4) pa_nil))))
      (pss_cons (ps_set (i := 7) sc.nd rfl (by first | exact Or.inl rfl | exact Or.inr rfl) (pe_c C_law_block hr (by omega) (by rfl) (pa_cons (pv 0) (pa_cons (pv 1) (pa_cons (pe_op op_add (pv 2) pe_int) (pa_cons pe_int pa_nil))))))
      (pss_one (ps_ret (pe_tup (pa_cons pe_str (pa_cons (pv 5) (pa_cons (pv 6) (pa_cons (pe_lst (pa_cons (pv 7) (pa_cons (pe_c C_law_block hr (by omega) (by rfl) (pa_cons (pv 0) (pa_cons (pv 1) (pa_cons (pe_op op_add (pv 2) pe_int) (pa_cons pe_int pa_nil))))) pa_nil))) pa_nil))))))))))))))))), ?_⟩
    refine q_run ?_
    refine ⟨.ref p, rfl, p, q0, 10, rfl, by decide, by decide, x, fun kind H1 k0 k10 o1 x1 => ?_⟩
    have W1 := W.one x o1
    refine q_asg (ev_w (ev_var rfl) W1).2.1 fun H2 e2 => ?_
    have x2 := x1.ex e2
    have W2 := W1.ex e2
    have o2 : Oth2 p wd H H2 := (Oth2.one o1).trans (.of e2)
    -- end
    refine q_when (et_test (ev_op (ev_var rfl) ev_c (rv_eq rfl))) (fun _ H3 e3 => ?_) (fun hk4 H3 e3 => ?_)
    · have x3 := x2.ex e3
      have W3 := W2.ex e3
      refine ⟨.ref p, rfl, p, q0, 2, rfl, by decide, by decide, x3, fun z H4 z0 z1 o4 x4 => ⟨by show 2 ≤ sizeLine; decide, fun T nT => ?_⟩⟩
      have o34 : Oth2 p wd H H4 := (o2.trans (.of e3)).trans (.one o4)
      have W4 := W3.one x3 o4
      obtain ⟨zz, rfl⟩ : ∃ zz : Nat, z = (zz : Int) := ⟨z.toNat, by omega⟩
      refine q (.fin zz) _ room _ (by rw [okS]; omega) (by rw [cnt]) (o34.trans (.of (Ex.new nT))) (x4.ex (Ex.new nT)) (W4.ex (Ex.new nT)) ?_
      rw [toD]
      exact .tup (new_later x4.isP (pool_isW W4) o34 nT) upd_same (.cons (.str _) (.cons (.int _) .nil))
    have x3 := x2.ex e3
    have W3 := W2.ex e3
    have o3 := o2.trans (.of e3)
    -- a command
    refine q_when (et_or (et_test (ev_op (ev_var rfl) ev_c rv_I0)) fun _ => et_test (ev_op (ev_var rfl) ev_c rv_I0)) (fun _ H4 e4 => ?_) (fun hkt H4 e4 => ?_)
    · have x4 := x3.ex e4
      have W4 := W3.ex e4
      have o4 := o3.trans (.of e4)
      refine ⟨.ref p, rfl, .int (c : Int), rfl, p, q0, c, rfl, c1, c3, x4, fun s v H5 hs o5 x5 dq => ?_⟩
      exact q s v room H5 (isCmd_ok hs).1 (by rw [(isCmd_ok (m := m) (lv := t) hs).2]) (o4.trans (.one o5)) x5 (W4.one x4 o5) (dq_to (fun a n => new_later x4.isP (pool_isW W4) o4 n) (fun _ _ _ h => h) _ _ dq)
    have x4 := x3.ex e4
    have W4 := W3.ex e4
    have o4 := o3.trans (.of e4)
    have ht2 : t ≤ 2 := by
      have := (Bool.or_eq_false_iff.mp hkt).2
      have := of_decide_eq_false this
      omega
    have ht3 : t + 1 ≤ 3 := by omega
    have lt3 : t < 3 := by omega
    -- keep
    refine q_when (et_test (ev_op (ev_var rfl) ev_c (rv_eq rfl))) (fun _ H5 e5 => ?_) (fun hk5 H5 e5 => ?_)
    · have x5 := x4.ex e5
      have W5 := W4.ex e5
      have o5 := o4.trans (.of e5)
      refine q_run ?_
      refine ⟨.ref p, rfl, .int (c : Int), rfl, p, q0, c, rfl, c3, x5, fun cs L H6 hcs nL o6 x6 hL => ?_⟩
      have W6 := W5.one x5 o6
      have o56 := o5.trans (.one o6)
      have nL0 : New H L := new_later x5.isP (pool_isW W5) o5 nL
      refine ⟨.ref L, rfl, .ref p, rfl, .ref wd, rfl, .int (t : Int), rfl, (t : Int), 1, rfl, rfl, p, q0, wd, c, m, room, 3, rfl, ht3, by omega, c1, c3, m1, m3, x6, W6, fun b v r7 H7 hb hlb hc o7 x7 W7 dq => ⟨by show 3 ≤ sizeLine; decide, fun T nT => ?_⟩⟩
      have o8 := o56.trans o7
      have eT := Ex.new (o := .tup [.str "keep", .ref L, v]) nT
      refine q (.keep cs b) _ r7 _ (by rw [okS]; exact ⟨lt3, hcs, by omega, hb⟩) (by rw [cnt]; omega) (o8.trans (.of eT)) (x7.ex eT) (W7.ex eT) ?_
      rw [toD]
      exact .tup (new_later x7.isP (pool_isW W7) o8 nT) upd_same (.cons (.str _) (.cons (dq_LI nL0 (eT _ _ (o7 _ _ (new_ne nL0 x.isP) (new_ne nL0 (pool_isW W)) hL))) (.cons (dq_later x6.isP (pool_isW W6) o56 (.of eT) dq) .nil)))
    have x5 := x4.ex e5
    have W5 := W4.ex e5
    have o5 := o4.trans (.of e5)
    -- either
    refine q_when (et_test (ev_op (ev_var rfl) ev_c (rv_eq rfl))) (fun _ H6 e6 => ?_) (fun hk6 H6 e6 => ?_)
    · have x6 := x5.ex e6
      have W6 := W5.ex e6
      have o6 := o5.trans (.of e6)
      refine q_run ?_
      refine ⟨.ref p, rfl, .ref wd, rfl, .int (t : Int), rfl, (t : Int), 1, rfl, rfl, p, q0, wd, c, m, room, 3, rfl, ht3, by omega, c1, c3, m1, m3, x6, W6, fun a va r7 H7 ha hla hca o7 x7 W7 dqa => ?_⟩
      have o67 := o6.trans o7
      refine ⟨va, rfl, .ref p, rfl, .ref wd, rfl, .int (t : Int), rfl, (t : Int), 1, rfl, rfl, p, q0, wd, c, m, r7, 3, rfl, ht3, by omega, c1, c3, m1, m3, x7, W7, fun b vb r8 H8 hb hlb hcb o8 x8 W8 dqb => ⟨by show 3 ≤ sizeLine; decide, fun T nT => ?_⟩⟩
      have o68 := o67.trans o8
      have eT := Ex.new (o := .tup [.str "either", va, vb]) nT
      refine q (.either a b) _ r8 _ (by rw [okS]; exact ⟨lt3, by omega, ha, by omega, hb⟩) (by rw [cnt]; omega) (o68.trans (.of eT)) (x8.ex eT) (W8.ex eT) ?_
      rw [toD]
      exact .tup (new_later x8.isP (pool_isW W8) o68 nT) upd_same (.cons (.str _) (.cons (dq_later x6.isP (pool_isW W6) o6 (o8.trans (.of eT)) dqa) (.cons (dq_later x7.isP (pool_isW W7) o67 (.of eT) dqb) .nil)))
    have x6 := x5.ex e6
    have W6 := W5.ex e6
    have o6 := o5.trans (.of e6)
    -- again
    refine q_when (et_test (ev_op (ev_var rfl) ev_c (rv_eq rfl))) (fun _ H7 e7 => ?_) (fun hk7 H7 e7 => ?_)
    · have x7 := x6.ex e7
      have W7 := W6.ex e7
      have o7 := o6.trans (.of e7)
      refine ⟨.ref p, rfl, .ref wd, rfl, .int (t : Int), rfl, (t : Int), 1, rfl, rfl, p, q0, wd, c, m, room, 3, rfl, ht3, by omega, c1, c3, m1, m3, x7, W7, fun b v r8 H8 hb hlb hc o8 x8 W8 dq => ⟨by show 2 ≤ sizeLine; decide, fun T nT => ?_⟩⟩
      have o78 := o7.trans o8
      have eT := Ex.new (o := .tup [.str "again", v]) nT
      refine q (.again b) _ r8 _ (by rw [okS]; exact ⟨lt3, by omega, hb⟩) (by rw [cnt]; omega) (o78.trans (.of eT)) (x8.ex eT) (W8.ex eT) ?_
      rw [toD]
      exact .tup (new_later x8.isP (pool_isW W8) o78 nT) upd_same (.cons (.str _) (.cons (dq_later x7.isP (pool_isW W7) o7 (.of eT) dq) .nil))
    have x7 := x6.ex e7
    have W7 := W6.ex e7
    have o7 := o6.trans (.of e7)
    -- call
    refine q_run ?_
    refine ⟨.ref p, rfl, .ref wd, rfl, wd, _, 1, .int (m : Int), rfl, rfl, sq_of W7.hw, atI_nat (j := 1) rfl, p, q0, (m : Int), rfl, by omega, Nat.lt_of_le_of_lt (show (m : Int).natAbs ≤ 4 by omega) (by decide), x7, fun pr H8 p0 pm o8 x8 => ?_⟩
    have W8 := W7.one x7 o8
    have o78 := o7.trans (.one o8)
    refine q_run ?_
    refine ⟨.ref p, rfl, .int (c : Int), rfl, p, q0, c, rfl, c3, x8, fun r L H9 hrr nL o9 x9 hL => ?_⟩
    have W9 := W8.one x8 o9
    have o79 := o78.trans (.one o9)
    have nL0 : New H L := new_later x8.isP (pool_isW W8) o78 nL
    refine q_run ?_
    refine ⟨.ref p, rfl, .ref wd, rfl, .int (t : Int), rfl, (t : Int), 1, rfl, rfl, p, q0, wd, c, m, room, 2, rfl, ht3, by omega, c1, c3, m1, m3, x9, W9, fun a va r10 H10 ha hla hca o10 x10 W10 dqa => ?_⟩
    have o710 := o79.trans o10
    obtain ⟨pp, rfl⟩ : ∃ pp : Nat, pr = (pp : Int) := ⟨pr.toNat, by omega⟩
    refine ⟨.int (pp : Int), rfl, .ref L, rfl, va, rfl, .ref p, rfl, .ref wd, rfl, .int (t : Int), rfl, (t : Int), 1, rfl, rfl, p, q0, wd, c, m, r10, 2, rfl, ht3, by omega, c1, c3, m1, m3, x10, W10, fun b vb r11 H11 hb hlb hcb o11 x11 W11 dqb => ⟨by show 2 ≤ sizeLine; decide, fun B nB => ⟨by show 4 ≤ sizeLine; decide, fun T nT => ?_⟩⟩⟩
    have o711 := o710.trans o11
    have eB := Ex.new (o := .lst [va, vb]) nB
    have eT := Ex.new (o := .tup [.str "call", .int (pp : Int), .ref L, .ref B]) nT
    have eBT := eB.trans eT
    have nB0 : New H B := new_later x11.isP (pool_isW W11) o711 nB
    refine q (.call pp r a b) _ r11 _ (by rw [okS]; exact ⟨lt3, by omega, hrr, by omega, ha, by omega, hb⟩) (by rw [cnt]; omega) (o711.trans (.of eBT)) (x11.ex eBT) (W11.ex eBT) ?_
    rw [toD]
    refine .tup (new_later (x11.ex eB).isP (pool_isW (W11.ex eB)) (o711.trans (.of eB)) nT) upd_same (.cons (.str _) (.cons (.int _) (.cons (dq_LI nL0 (eBT _ _ (o11 _ _ (new_ne nL0 x.isP) (new_ne nL0 (pool_isW W)) (o10 _ _ (new_ne nL0 x.isP) (new_ne nL0 (pool_isW W)) hL)))) (.cons ?_ .nil))))
    exact .lst nB0 (eT _ _ upd_same) (.cons (dq_later x9.isP (pool_isW W9) o79 (o11.trans (.of eBT)) dqa) (.cons (dq_later x10.isP (pool_isW W10) o710 (.of eBT) dqb) .nil))
end
section
variable {P : Program} {w : World} {K : PySem.W.Frag} {mg : Str → Option Value} {base : Heap}
/-- statements and blocks at every level -/
theorem gen_levels {fS fB : Addr} {fdS fdB : FuncData} (FS : Fun K "_law_statement" "_law_statement" s_law_statement fS fdS) (FB : Fun K "_law_block" "_law_block" s_law_block fB fdB) (gS : mg "_law_statement" = some (.ref fS)) (gB : mg "_law_block" = some (.ref fB))
    (bS : Binds K fdS ["pool", "world", "tier"] []) (bB : Binds K fdB ["pool", "world", "tier", "most"] []) (z_range : mg "range" = none) (C_law_draw : Cal P w K mg base 1 "_law_draw" spDraw []) (C_law_row : Cal P w K mg base 2 "_law_row" spRow []) (C_law_command : Cal P w K mg base 3 "_law_command" spCmd [])
    (C_law_some_cells : Cal P w K mg base 2 "_law_some_cells" spCells []) : ∀ j t, j + t = 4 → Cal P w K mg base (3 + 2 * j) "_law_block" (spBlk t) [] ∧ ∀ t', t' + 1 = t → Cal P w K mg base (3 + 2 * j + 1) "_law_statement" (spStmt t') []
  | 0, t, h => by
    have e : t = 4 := by omega
    subst e
    have B : Cal P w K mg base (3 + 2 * 0) "_law_block" (spBlk 4) [] := ⟨fB, fdB, ["pool", "world", "tier", "most"], [], ⟨fun _ _ _ _ h => by obtain ⟨_, _, _, _, _, _, _, _, h, _⟩ := h; omega, fun _ _ _ _ _ _ _ _ _ _ _ _ _ h => by obtain ⟨_, _, _, _, _, _, _, _, h, _⟩ := h; omega⟩, gB, FB.kp, bB, .nil⟩
    refine ⟨B, fun t' e => ?_⟩
    have : t' = 3 := by omega
    subst this
    exact ⟨fS, fdS, _, [], ok_statement FS C_law_draw C_law_row C_law_command C_law_some_cells B (by decide), gS, FS.kp, bS, .nil⟩
  | j + 1, t, h => by
    obtain ⟨_, hS⟩ := gen_levels FS FB gS gB bS bB z_range C_law_draw C_law_row C_law_command C_law_some_cells j (t + 1) (by omega)
    have S := hS t rfl
    have B : Cal P w K mg base (3 + 2 * (j + 1)) "_law_block" (spBlk t) [] := ⟨fB, fdB, _, [], ok_block (k := 3 + 2 * j + 1) FB z_range C_law_draw S (by omega), gB, FB.kp, bB, .nil⟩
    refine ⟨B, fun t' e => ?_⟩
    subst e
    exact ⟨fS, fdS, _, [], ok_statement FS C_law_draw C_law_row C_law_command C_law_some_cells B (by omega), gS, FS.kp, bS, .nil⟩
/-- the body of a procedure -/
def okB (c m : Nat) (b : List Stm) : Prop := okL c m b 0 ∧ b.length ≤ 8 ∧ cntL b ≤ 12
def bD (b : List Stm) : PyData := .list (toDs b)
def spBody : Sp := fun vs H Q _ => ∃ (p q : Addr) (c m : Nat), vs = [.ref p, .int (c : Int), .int (m : Int), .int 12, .int 0] ∧ 1 ≤ c ∧ c ≤ 3 ∧ 1 ≤ m ∧ m ≤ 3 ∧ Pool H p q ∧
  ∀ (b : List Stm) (v : V) (H' : Hp), okB c m b → b.length ≤ 4 → Oth p H H' → Pool H' p q → Dq (New H) H' v (bD b) → Q v H'
theorem ok_body {f : Addr} {fd : FuncData} {k : Nat} (F : Fun K "_law_body" "_law_body" s_law_body f fd) (C_law_statement : Cal P w K mg base 10 "_law_statement" (spStmt 0) []) (C_law_block : Cal P w K mg base 11 "_law_block" (spBlk 0) []) (hk : 11 ≤ k) :
    FnOk P w K mg base CX0 (k + 1) f fd ["pool", "cells", "many", "room", "tier"] spBody := by
  have sc := sc_law_body
  refine F.ok sc (fun vs H Q E h => ?_) (fun cdv A outer s H vs Q E hr h => ?_)
  · obtain ⟨p, q0, c, m, rfl, _⟩ := h
    rfl
  · obtain ⟨p, q0, c, m, rfl, c1, c3, m1, m3, x, q⟩ := h
    refine ⟨_, (pss_cons (ps_set (i := 5) sc.nd rfl (by first | exact Or.inl rfl | exact Or.inr rfl) (pe_lst (pa_cons (pv 1) (pa_cons (pv 2) (pa_cons (pe_op op_sub (pv 3) pe_int) pa_nil)))))
      (pss_cons (ps_set (i := 6) sc.nd rfl (by first | exact Or.inl rfl | exact Or.inr rfl) (pe_lst (pa_cons (pe_c C_law_statement hr (by omega) (by rfl) (pa_cons (pv 0) (pa_cons (pv 5) (pa_cons (pv 4) pa_nil)))) pa_nil)))
      (pss_one (ps_ret (pe_op op_cat (pv 6) (pe_c C_law_block hr (by omega) (by rfl) (pa_cons (pv 0) (pa_cons (pv 5) (pa_cons (pv 4) (pa_cons pe_int pa_nil)))))))))), ?_⟩
    refine q_asgL (el_lst (ea_cons (ev_var rfl) (ea_cons (ev_var rfl) (ea_cons (ev_op (ev_var rfl) ev_c rv_I0) ea_nil))) (by show 3 ≤ 100000; decide)) fun wd H1 nw e1 hw => ?_
    have x1 := x.ex e1
    have W1 : World3 H1 wd q0 c m 11 := ⟨hw, new_ne nw x.isQ⟩
    have wp : wd ≠ p := new_ne nw x.isP
    have o1 : Oth2 p wd H H1 := .of e1
    -- body = [statement]
    refine q_run ?_
    refine ⟨.ref p, rfl, .ref wd, rfl, .int 0, rfl, p, q0, wd, c, m, 11, rfl, by decide, c1, c3, m1, m3, x1, W1, fun s v r2 H2 oks hc o2 x2 W2 dq => ⟨by show 1 ≤ sizeLine; decide, fun B nB => ?_⟩⟩
    have o12 := o1.trans o2
    have eB := Ex.new (o := .lst [v]) nB
    have x3 := x2.ex eB
    have W3 := W2.ex eB
    have o13 := o12.trans (.of eB)
    have nB0 : New H B := new_later x2.isP (pool_isW W2) o12 nB
    refine ⟨.ref B, rfl, .ref p, rfl, .ref wd, rfl, .int 0, rfl, p, q0, wd, c, m, r2, 3, rfl, by decide, by decide, c1, c3, m1, m3, x3, W3, fun b vb r4 H4 hb hlb hcb o4 x4 W4 dqb => ?_⟩
    have hB4 := o4 _ _ (new_ne nB0 x.isP) (new_ne nB ⟨_, W2.hw⟩) upd_same
    have dq4 : Dq (New H) H4 v (toD s) := dq_later x1.isP (pool_isW W1) o1 ((Oth2.of eB).trans o4) dq
    cases dqb with
    | @lst L xs ds nL hL hds =>
      have lxs : xs.length = b.length := by rw [dqa_len hds, toDs_len]
      refine ⟨B, L, [v], xs, rfl, rfl, hB4, hL, ?_, fun R nR => ?_⟩
      · have := small1000 (n := [v].length + xs.length) (by rw [lxs, List.length_singleton]; omega)
        exact Nat.le_of_lt this
      · have eR := Ex.new (o := .lst ([v] ++ xs)) nR
        have o14 := o13.trans o4
        have nR0 : New H R := new_later x4.isP (pool_isW W4) o14 nR
        refine q (s :: b) _ _ ⟨by rw [okL]; exact ⟨oks, hb⟩, by rw [List.length_cons]; omega, by rw [cntL]; omega⟩ (by rw [List.length_cons]; omega) (fun a u na ha => ?_) (x4.ex eR) ?_
        · exact eR _ _ (o14 _ _ na (ne_of_none ha nw) ha)
        · rw [bD, toDs]
          exact .lst nR0 upd_same (.cons (dq_to (fun _ h => h) (fun a u _ ha => eR _ _ ha) _ _ dq4) (dqa_to (fun a n => new_later x3.isP (pool_isW W3) o13 n) (fun a u _ ha => eR _ _ ha) _ _ hds))
def toB (bs : List (List Stm)) : PyData := .list (bs.map bD)
def spBodies : Sp := fun vs H Q _ => ∃ (p q : Addr) (c m : Nat), vs = [.ref p, .int (c : Int), .int (m : Int), .int 12] ∧ 1 ≤ c ∧ c ≤ 3 ∧ 1 ≤ m ∧ m ≤ 3 ∧ Pool H p q ∧
  ∀ (bs : List (List Stm)) (B : Addr) (xs : List V) (H' : Hp), bs.length = m → (∀ b ∈ bs, okB c m b) → Oth p H H' → Pool H' p q → New H B → H' B = some (.lst xs) → DqAll (fun a => New H a ∧ a ≠ B) H' xs (bs.map bD) → Q (.ref B) H'
theorem ok_bodies {f : Addr} {fd : FuncData} {k : Nat} (F : Fun K "_law_bodies" "_law_bodies" s_law_bodies f fd) (z_range : mg "range" = none) (C_law_body : Cal P w K mg base 12 "_law_body" spBody []) (hk : 12 ≤ k) :
    FnOk P w K mg base CX0 (k + 1) f fd ["pool", "cells", "many", "room"] spBodies := by
  have sc := sc_law_bodies
  refine F.ok sc (fun vs H Q E h => ?_) (fun cdv A outer s H vs Q E hr h => ?_)
  · obtain ⟨p, q0, c, m, rfl, _⟩ := h
    rfl
  · obtain ⟨p, q0, c, m, rfl, c1, c3, m1, m3, x, q⟩ := h
    refine ⟨_, (pss_one (ps_ret (pe_lc (own := [("k", 4)]) (by rfl) sc.nd (pi_range1 (by rfl) z_range (pa_cons (pv 2) pa_nil)) (blkOk_by (own := [("k", 4)]) (N := ["pool", "cells", "many", "room", "k"]) (sc := defScope s_law_bodies) (by decide +kernel)) (fun _ _ _ _ _ => (pg_name (i := 4) sc.nd rfl (by first | exact Or.inl rfl | exact Or.inr rfl))) (fun _ _ _ _ _ => pts_nil) (fun _ _ _ _ _ => (pe_c C_law_body hr (by omega) (by rfl) (pa_cons (pv 0) (pa_cons (pv 1) (pa_cons (pv 2) (pa_cons (pv 3) (pa_cons pe_int pa_nil)))))))))), ?_⟩
    refine ⟨.int (m : Int), rfl, (m : Int), rfl, by omega, by omega, fun D nD => ?_⟩
    have Dp1 : D ≠ p := new_ne nD x.isP
    have Dq1 : D ≠ q0 := new_ne nD x.isQ
    refine lc_range (lo := 0) (n := m) (fun i H' => ∃ (bs : List (List Stm)) (xs : List V), bs.length = i ∧ (∀ b ∈ bs, okB c m b) ∧ Oth p H H' ∧ Pool H' p q0 ∧ H' D = some (.lst xs) ∧ DqAll (fun a => New H a ∧ a ≠ D) H' xs (bs.map bD))
      ⟨[], [], rfl, fun _ h => (nomatch h), .of (Ex.new nD), x.ex (Ex.new nD), upd_same, .nil⟩ (fun i H' hi hP => ?_) (fun H' hP => ?_)
    · obtain ⟨bs, xs, rfl, hok, o, x', hD, hd⟩ := hP
      have lxs : xs.length = bs.length := by rw [dqa_len hd, List.length_map]
      show wipe ((wipe _ _).set 4 (some (.int ((0 : Int) + (bs.length : Int))))) _ = wipe _ _ ∧ _
      refine ⟨rfl, .ref p, rfl, .int (c : Int), rfl, .int (m : Int), rfl, .int 12, rfl, p, q0, c, m, rfl, c1, c3, m1, m3, x', fun b v H2 hb hlb o2 x2 dq => ⟨xs, o2 _ _ Dp1 hD, sz_lt (by omega), bs ++ [b], xs ++ [v], by simp, fun y hy => ?_, fun a u na ha => ?_, x2.upd Dp1 Dq1, upd_same, ?_⟩⟩
      · rcases List.mem_append.mp hy with hy | hy
        · exact hok y hy
        · rw [List.mem_singleton.mp hy]; exact hb
      · rw [upd_ne (ne_of_none ha nD)]
        exact o2 _ _ na (o _ _ na ha)
      · rw [List.map_append]
        refine dqa_app (dqa_to (fun _ h => h) (fun a u n ha => ?_) _ _ hd) (.cons (dq_to (fun a n => ⟨new_back o x'.isP n, new_ne n ⟨_, hD⟩⟩) (fun a u n ha => by rw [upd_ne (new_ne n ⟨_, hD⟩)]; exact ha) _ _ dq) .nil)
        rw [upd_ne n.2]
        exact o2 _ _ (new_ne n.1 x.isP) ha
    · obtain ⟨bs, xs, hl, hok, o, x', hD, hd⟩ := hP
      exact q bs D xs H' hl hok o x' nD hD hd
end
/-! ### copies -/
section
variable {K : PySem.W.Frag} {σ : L2.St} {H : Hp} {te tl : TE}
theorem cb_1 {r : List V → Hp → VK → Prop} {Q : VK} (h : te σ H fun x H1 => r [x] H1 Q) : tCB r (tCons te tNil) σ H Q := h
/-- te gives a copy of the item -/
def CpAt (te : TE) (σ : L2.St) (H : Hp) (d : PyData) : Prop := ∀ H1, Ex H H1 → ∀ Q : VK, (∀ v' H2, Ex H1 H2 → Dq (New H1) H2 v' d → Q v' H2) → te σ H1 Q
def CpOut (H1 : Hp) (ds : List PyData) (Q : VK) : Prop := ∀ D ys H2, H1 D = none → Ex H1 H2 → H2 D = some (.lst ys) → DqAll (fun a => New H1 a ∧ a ≠ D) H2 ys ds → Q (.ref D) H2
theorem new_ex {H H1 : Hp} {a : Addr} (e : Ex H H1) (h : New H1 a) : New H a := fresh_back e h
theorem dqa_at {N : Addr → Prop} : ∀ {vs : List V} {ds : List PyData} {i : Nat} {v : V}, DqAll N H vs ds → vs[i]? = some v → ∃ d, ds[i]? = some d ∧ Dq N H v d
  | _, _, i, v, .nil, h => by simp at h
  | _, _, 0, v, .cons a _, h => ⟨_, rfl, by have := Option.some.inj h; subst this; exact a⟩
  | _, _, i + 1, v, .cons _ b, h => by
    obtain ⟨d, h1, h2⟩ := dqa_at (i := i) b (by simpa using h)
    exact ⟨d, by simpa using h1, h2⟩
theorem dpa_at2 : ∀ {vs : List V} {ds : List PyData} {i : Nat} {v : V}, DpAll K H vs ds → vs[i]? = some v → ∃ d, ds[i]? = some d ∧ Dp K H v d
  | _, _, i, v, .nil, h => by simp at h
  | _, _, 0, v, .cons a _, h => ⟨_, rfl, by have := Option.some.inj h; subst this; exact a⟩
  | _, _, i + 1, v, .cons _ b, h => by
    obtain ⟨d, h1, h2⟩ := dpa_at2 (i := i) b (by simpa using h)
    exact ⟨d, by simpa using h1, h2⟩
/-- one turn -/
theorem copy_turn {H1 H' : Hp} {D : Addr} {ys : List V} {ds : List PyData} {i : Nat} {d : PyData} {σ' : L2.St} {Nx : Hp → Prop} (hD : H1 D = none) (e : Ex H1 H') (hD' : H' D = some (.lst ys)) (hd : DqAll (fun a => New H1 a ∧ a ≠ D) H' ys (ds.take i)) (hl : ds.length ≤ 10000) (hi : ds[i]? = some d)
    (hc : CpAt te σ' H' d) (k : ∀ ys2 H2, Ex H1 H2 → H2 D = some (.lst ys2) → DqAll (fun a => New H1 a ∧ a ≠ D) H2 ys2 (ds.take (i + 1)) → Nx H2) :
    te σ' H' fun y H4 => ∃ acc, H4 D = some (.lst acc) ∧ acc.length < sizeLine ∧ Nx (upd H4 D (.lst (acc ++ [y]))) := by
  refine hc H' (Ex.refl _) _ fun v' H2 e2 dq => ⟨ys, e2 _ _ hD', ?_, k (ys ++ [v']) _ ((e.trans e2).mut hD) upd_same ?_⟩
  · rw [dqa_len hd, List.length_take]; exact sz_lt (by omega)
  · rw [List.take_add_one, hi]
    refine dqa_app (dqa_to (fun _ h => h) (fun a u n ha => by rw [upd_ne n.2]; exact e2 _ _ ha) _ _ hd) (.cons (dq_to (fun a n => ⟨new_ex e n, new_ne n ⟨_, hD'⟩⟩) (fun a u n ha => by rw [upd_ne (new_ne n ⟨_, hD'⟩)]; exact ha) _ _ dq) .nil)
theorem lc_copyL {a : Addr} {xs : List V} {ds : List PyData} {j : Nat} {vs : List Nat} (h : Ev tl σ H (.ref a)) (hs : SqL K H a xs) (hlen : xs.length = ds.length) (hl : ds.length ≤ 10000) (hw : ∀ x, wipe ((wipe σ vs).set j (some x)) vs = wipe σ vs)
    (hc : ∀ (i : Nat) (v : V) (d : PyData), xs[i]? = some v → ds[i]? = some d → CpAt te ((wipe σ vs).set j (some v)) H d) {Q : VK} (k : CpOut H ds Q) : tLc (iList K tl) (gName j) tYes te vs σ H Q :=
  h H (Ex.refl H) _ fun H1 e1 => ⟨a, rfl, ⟨xs, ex_l e1 hs⟩, fun D hD =>
    lc_list (xs := xs) (fun i H' => ∃ ys, Ex H1 H' ∧ H' D = some (.lst ys) ∧ DqAll (fun a => New H1 a ∧ a ≠ D) H' ys (ds.take i)) ⟨[], Ex.new hD, upd_same, .nil⟩ (fun i H' _ p => by
        obtain ⟨ys, e, _⟩ := p
        exact ex_l (e1.trans e) hs) (fun i x H' hi p => ⟨hw x, by
        obtain ⟨ys, e, hd, dq⟩ := p
        have hi2 : i < ds.length := by have := (List.getElem?_eq_some_iff.mp hi).1; omega
        have hdi := List.getElem?_eq_getElem hi2
        show te _ _ _
        exact copy_turn (Nx := fun H' => ∃ ys, Ex H1 H' ∧ H' D = some (.lst ys) ∧ DqAll (fun a => New H1 a ∧ a ≠ D) H' ys (ds.take (i + 1))) hD e hd dq hl hdi (fun H2 e2 => hc i x _ hi hdi H2 ((e1.trans e).trans e2)) fun ys2 H2 a b c => ⟨ys2, a, b, c⟩⟩)
      (fun H' p => by
        obtain ⟨ys, e, hd, dq⟩ := p
        rw [List.take_of_length_le (by omega)] at dq
        exact k D ys H' (fresh_back e1 hD) (e1.trans e) hd (dqa_to (fun a n => ⟨new_ex e1 n.1, n.2⟩) (fun _ _ _ h => h) _ _ dq))⟩
theorem lc_copyT {a : Addr} {xs : List V} {ds : List PyData} {j : Nat} {vs : List Nat} (h : Ev tl σ H (.ref a)) (hs : SqT K H a xs) (hlen : xs.length = ds.length) (hl : ds.length ≤ 10000) (hw : ∀ x, wipe ((wipe σ vs).set j (some x)) vs = wipe σ vs)
    (hc : ∀ (i : Nat) (v : V) (d : PyData), xs[i]? = some v → ds[i]? = some d → CpAt te ((wipe σ vs).set j (some v)) H d) {Q : VK} (k : CpOut H ds Q) : tLc (iTup K tl) (gName j) tYes te vs σ H Q :=
  h H (Ex.refl H) _ fun H1 e1 => ⟨a, rfl, ⟨xs, ex_t e1 hs⟩, fun D hD =>
    lc_tup (xs := xs) (fun i H' => ∃ ys, Ex H1 H' ∧ H' D = some (.lst ys) ∧ DqAll (fun a => New H1 a ∧ a ≠ D) H' ys (ds.take i)) ⟨[], Ex.new hD, upd_same, .nil⟩ (fun i H' _ p => by
        obtain ⟨ys, e, _⟩ := p
        exact ex_t (e1.trans e) hs) (fun i x H' hi p => ⟨hw x, by
        obtain ⟨ys, e, hd, dq⟩ := p
        have hi2 : i < ds.length := by have := (List.getElem?_eq_some_iff.mp hi).1; omega
        have hdi := List.getElem?_eq_getElem hi2
        show te _ _ _
        exact copy_turn (Nx := fun H' => ∃ ys, Ex H1 H' ∧ H' D = some (.lst ys) ∧ DqAll (fun a => New H1 a ∧ a ≠ D) H' ys (ds.take (i + 1))) hD e hd dq hl hdi (fun H2 e2 => hc i x _ hi hdi H2 ((e1.trans e).trans e2)) fun ys2 H2 a b c => ⟨ys2, a, b, c⟩⟩)
      (fun H' p => by
        obtain ⟨ys, e, hd, dq⟩ := p
        rw [List.take_of_length_le (by omega)] at dq
        exact k D ys H' (fresh_back e1 hD) (e1.trans e) hd (dqa_to (fun a n => ⟨new_ex e1 n.1, n.2⟩) (fun _ _ _ h => h) _ _ dq))⟩
/-- a copy of data at most n - 1 deep -/
def spCopy (K : PySem.W.Frag) (n : Nat) : Sp := fun vs H Q _ => ∃ (v : V) (d : PyData) (m : Nat), vs = [v] ∧ n = m + 1 ∧ Dp K H v d ∧ fit d m = true ∧ ∀ v' H', Ex H H' → Dq (New H) H' v' d → Q v' H'
theorem cp_call {E : XK} {ti : TE} {n m : Nat} {v : V} {d : PyData} (hn : n = m + 1) (h : Ev ti σ H v) (hd : Dp K H v d) (hf : fit d m = true) : CpAt (tCall (spCopy K n) [] E (tCons ti tNil)) σ H d := fun H1 e Q q =>
  h H1 e _ fun H2 e2 => ⟨v, d, m, rfl, hn, dp_ex (e.trans e2) d v hd, hf, fun v' H3 e3 dq => q v' H3 (e2.trans e3) (dq_to (fun a n => new_ex e2 n) (fun _ _ _ h => h) _ _ dq)⟩
theorem flat_dq {v : V} {d : PyData} {N : Addr → Prop} (h : Dp K H v d) (h1 : isa d "list" = false) (h2 : isa d "tuple" = false) : Dq N H v d := by
  rw [isa_list] at h1
  rw [isa_tuple] at h2
  cases h with
  | non => exact .non
  | bl b => exact .bl b
  | int i => exact .int i
  | str x => exact .str x
  | lst _ _ => cases h1
  | tup _ _ => cases h2
end
abbrev s_law_copied : Stmt := topS 45
theorem sc_law_copied : FnScope ["value", "item"] ["value"] (defScope s_law_copied) := ⟨rfl, rfl, rfl, by decide +kernel, rfl, by decide +kernel, by decide +kernel⟩
abbrev scopied : Stmt := topS 7
theorem sccopied : FnScope ["value", "item", "key", "worth"] ["value"] (defScope scopied) := ⟨rfl, rfl, rfl, by decide +kernel, rfl, by decide +kernel, by decide +kernel⟩
section
variable {P : Program} {w : World} {K : PySem.W.Frag} {mg : Str → Option Value} {base : Heap}
theorem isa_list_t {H : Hp} {v : V} {d : PyData} (h : Dp K H v d) (hl : isa d "list" = true) : ∃ a xs ds, v = .ref a ∧ d = .list ds ∧ SqL K H a xs ∧ DpAll K H xs ds := by
  rw [isa_list] at hl
  cases h with
  | lst s a => exact ⟨_, _, _, rfl, rfl, s, a⟩
  | _ => cases hl
theorem isa_tuple_t {H : Hp} {v : V} {d : PyData} (h : Dp K H v d) (hl : isa d "tuple" = true) : ∃ a xs ds, v = .ref a ∧ d = .tuple ds ∧ SqT K H a xs ∧ DpAll K H xs ds := by
  rw [isa_tuple] at hl
  cases h with
  | tup s a => exact ⟨_, _, _, rfl, rfl, s, a⟩
  | _ => cases hl
theorem lcopied_step {f : Addr} {fd : FuncData} {n : Nat} (F : Fun K "_law_copied" "_law_copied" s_law_copied f fd) (z_isinstance : mg "isinstance" = none) (z_list : mg "list" = none) (z_tuple : mg "tuple" = none) (C_law_copied : Cal P w K mg base n "_law_copied" (spCopy K n) []) :
    FnOk P w K mg base CX0 (n + 1) f fd ["value"] (spCopy K (n + 1)) := by
  have sc := sc_law_copied
  refine F.ok sc (fun vs H Q E h => ?_) (fun cdv A outer s H vs Q E hr h => ?_)
  · obtain ⟨v, d, m, rfl, _⟩ := h
    rfl
  · obtain ⟨v, d, n', rfl, en, hv, hf, q⟩ := h
    obtain rfl : n' = n := by omega
    refine ⟨_, (pss_cons (ps_if (pt_val (pe_callB call_isi (by rfl) z_isinstance (by decide +kernel) (pa_cons (pv 0) (pa_cons (pe_bltn (v := .ty "list") (by rfl) z_list (by decide +kernel) rfl) pa_nil))))
      (pss_one (ps_ret (pe_lc (own := [("item", 1)]) (by rfl) sc.nd (pi_list (pv 0)) (blkOk_by (own := [("item", 1)]) (N := ["value", "item"]) (sc := defScope s_law_copied) (by decide +kernel)) (fun _ _ _ _ _ => (pg_name (i := 1) sc.nd rfl (by first | exact Or.inl rfl | exact Or.inr rfl))) (fun _ _ _ _ _ => pts_nil) (fun _ _ _ _ _ => (pe_c C_law_copied hr (by omega) (by rfl) (pa_cons (pv 1) pa_nil))))))
      pss_nil)
      (pss_cons (ps_if (pt_val (pe_callB call_isi (by rfl) z_isinstance (by decide +kernel) (pa_cons (pv 0) (pa_cons (pe_bltn (v := .ty "tuple") (by rfl) z_tuple (by decide +kernel) rfl) pa_nil))))
      (pss_one (ps_ret (pe_callTy call_tuple_of (by rfl) z_tuple (by decide +kernel) (pa_cons (pe_lc (own := [("item", 1)]) (by rfl) sc.nd (pi_tup (pv 0)) (blkOk_by (own := [("item", 1)]) (N := ["value", "item"]) (sc := defScope s_law_copied) (by decide +kernel)) (fun _ _ _ _ _ => (pg_name (i := 1) sc.nd rfl (by first | exact Or.inl rfl | exact Or.inr rfl))) (fun _ _ _ _ _ => pts_nil) (fun _ _ _ _ _ => (pe_c C_law_copied hr (by omega) (by rfl) (pa_cons (pv 1) pa_nil)))) pa_nil))))
      pss_nil)
      (pss_one (ps_ret (pv 0))))), ?_⟩
    have kd := kitB_isa d
    refine q_when (et_B (ev_isi hv (ev_var rfl) kd.2.2.2.1)) (fun hb H1 e1 => ?_) (fun hb H1 e1 => ?_)
    · obtain ⟨a, xs, ds, rfl, rfl, hs, hx⟩ := isa_list_t hv hb
      obtain ⟨m, em, lx, gx⟩ := fit_list hf
      have hs1 := ex_l e1 hs
      have hx1 := dpa_ex e1 ds _ hx
      have lxs := dpa_len hx1
      refine s_retR (lc_copyL (ev_var rfl) hs1 lxs lx (fun _ => rfl) (fun i v d hv hd => ?_) fun D ys H2 nD e2 hD dq => ?_)
      · obtain ⟨d', hd', p⟩ := dpa_at2 hx1 hv
        have : d' = d := Option.some.inj (hd'.symm.trans hd)
        subst this
        exact cp_call em (ev_var rfl) p (fitAll_mem gx (List.mem_of_getElem? hd))
      · exact q _ _ (e1.trans e2) (.lst (new_ex e1 nD) hD (dqa_to (fun a n => new_ex e1 n.1) (fun _ _ _ h => h) _ _ dq))
    refine q_when (et_B (ev_isi (dp_ex e1 _ _ hv) (ev_var rfl) kd.2.2.2.2)) (fun hc H2 e2 => ?_) (fun hc H2 e2 => ?_)
    · have e12 := e1.trans e2
      obtain ⟨a, xs, ds, rfl, rfl, hs, hx⟩ := isa_tuple_t hv hc
      obtain ⟨m, em, lx, gx⟩ := fit_tuple hf
      have hs1 := ex_t e12 hs
      have hx1 := dpa_ex e12 ds _ hx
      have lxs := dpa_len hx1
      refine s_retR (cb_1 ?_)
      refine lc_copyT (ev_var rfl) hs1 lxs lx (fun _ => rfl) (fun i v d hv hd => ?_) fun D ys H3 nD e3 hD dq => ?_
      · obtain ⟨d', hd', p⟩ := dpa_at2 hx1 hv
        have : d' = d := Option.some.inj (hd'.symm.trans hd)
        subst this
        exact cp_call em (ev_var rfl) p (fitAll_mem gx (List.mem_of_getElem? hd))
      · refine ⟨D, ys, rfl, .inl ⟨sq_of hD, fun T nT => ?_⟩⟩
        have eT := Ex.new (o := .tup ys) nT
        exact q _ _ ((e12.trans e3).trans eT) (.tup (new_ex (e12.trans e3) nT) upd_same (dqa_to (fun a n => new_ex e12 n.1) (fun a u _ ha => eT _ _ ha) _ _ dq))
    · have e12 := e1.trans e2
      refine s_ret (ev_var rfl) fun H3 e3 => q _ _ (e12.trans e3) (flat_dq (dp_ex (e12.trans e3) _ _ hv) hb hc)
theorem ok_lcopied {f : Addr} {fd : FuncData} (F : Fun K "_law_copied" "_law_copied" s_law_copied f fd) (g : mg "_law_copied" = some (.ref f)) (b : Binds K fd ["value"] []) (z_isinstance : mg "isinstance" = none) (z_list : mg "list" = none) (z_tuple : mg "tuple" = none) : ∀ n, FnOk P w K mg base CX0 n f fd ["value"] (spCopy K n)
  | 0 => ⟨fun _ _ _ _ ⟨_, _, _, _, h, _⟩ => (nomatch h), fun _ _ _ _ _ _ _ _ _ _ _ _ _ ⟨_, _, _, _, h, _⟩ => (nomatch h)⟩
  | n + 1 => lcopied_step F z_isinstance z_list z_tuple ⟨f, fd, _, [], ok_lcopied F g b z_isinstance z_list z_tuple n, g, F.kp, b, .nil⟩
theorem kd_all : ∀ t ∈ ["NoneType", "bool", "int", "str", "list", "tuple"], kitB t "dict" = some false := by
  decide +kernel
theorem kd_dict {H : Hp} {v : V} {d : PyData} (h : Dp K H v d) : kitB (tyn d) "dict" = some false := by
  refine kd_all _ ?_
  cases h <;> simp [tyn]
theorem copied_step {f : Addr} {fd : FuncData} {n : Nat} (F : Fun K "copied" "copied" scopied f fd) (z_isinstance : mg "isinstance" = none) (z_list : mg "list" = none) (z_tuple : mg "tuple" = none) (z_dict : mg "dict" = none) (Ccopied : Cal P w K mg base n "copied" (spCopy K n) []) :
    FnOk P w K mg base CX0 (n + 1) f fd ["value"] (spCopy K (n + 1)) := by
  have sc := sccopied
  refine F.ok sc (fun vs H Q E h => ?_) (fun cdv A outer s H vs Q E hr h => ?_)
  · obtain ⟨v, d, m, rfl, _⟩ := h
    rfl
  · obtain ⟨v, d, n', rfl, en, hv, hf, q⟩ := h
    obtain rfl : n' = n := by omega
    refine ⟨_, (pss_cons (ps_if (pt_val (pe_callB call_isi (by rfl) z_isinstance (by decide +kernel) (pa_cons (pv 0) (pa_cons (pe_bltn (v := .ty "list") (by rfl) z_list (by decide +kernel) rfl) pa_nil))))
      (pss_one (ps_ret (pe_lc (own := [("item", 1)]) (by rfl) sc.nd (pi_list (pv 0)) (blkOk_by (own := [("item", 1)]) (N := ["value", "item", "key", "worth"]) (sc := defScope scopied) (by decide +kernel)) (fun _ _ _ _ _ => (pg_name (i := 1) sc.nd rfl (by first | exact Or.inl rfl | exact Or.inr rfl))) (fun _ _ _ _ _ => pts_nil) (fun _ _ _ _ _ => (pe_c Ccopied hr (by omega) (by rfl) (pa_cons (pv 1) pa_nil))))))
      pss_nil)
      (pss_cons (ps_if (pt_val (pe_callB call_isi (by rfl) z_isinstance (by decide +kernel) (pa_cons (pv 0) (pa_cons (pe_bltn (v := .ty "tuple") (by rfl) z_tuple (by decide +kernel) rfl) pa_nil))))
      (pss_one (ps_ret (pe_callTy call_tuple_of (by rfl) z_tuple (by decide +kernel) (pa_cons (pe_lc (own := [("item", 1)]) (by rfl) sc.nd (pi_tup (pv 0)) (blkOk_by (own := [("item", 1)]) (N := ["value", "item", "key", "worth"]) (sc := defScope scopied) (by decide +kernel)) (fun _ _ _ _ _ => (pg_name (i := 1) sc.nd rfl (by first | exact Or.inl rfl | exact Or.inr rfl))) (fun _ _ _ _ _ => pts_nil) (fun _ _ _ _ _ => (pe_c Ccopied hr (by omega) (by rfl) (pa_cons (pv 1) pa_nil)))) pa_nil))))
      pss_nil)
      (pss_cons (ps_if (pt_val (pe_callB call_isi (by rfl) z_isinstance (by decide +kernel) (pa_cons (pv 0) (pa_cons (pe_bltn (v := .ty "dict") (by rfl) z_dict (by decide +kernel) rfl) pa_nil))))
      (pss_one ps_never)
      pss_nil)
      (pss_one (ps_ret (pv 0)))))), ?_⟩
    have kd := kitB_isa d
    refine q_when (et_B (ev_isi hv (ev_var rfl) kd.2.2.2.1)) (fun hb H1 e1 => ?_) (fun hb H1 e1 => ?_)
    · obtain ⟨a, xs, ds, rfl, rfl, hs, hx⟩ := isa_list_t hv hb
      obtain ⟨m, em, lx, gx⟩ := fit_list hf
      have hs1 := ex_l e1 hs
      have hx1 := dpa_ex e1 ds _ hx
      have lxs := dpa_len hx1
      refine s_retR (lc_copyL (ev_var rfl) hs1 lxs lx (fun _ => rfl) (fun i v d hv hd => ?_) fun D ys H2 nD e2 hD dq => ?_)
      · obtain ⟨d', hd', p⟩ := dpa_at2 hx1 hv
        have : d' = d := Option.some.inj (hd'.symm.trans hd)
        subst this
        exact cp_call em (ev_var rfl) p (fitAll_mem gx (List.mem_of_getElem? hd))
      · exact q _ _ (e1.trans e2) (.lst (new_ex e1 nD) hD (dqa_to (fun a n => new_ex e1 n.1) (fun _ _ _ h => h) _ _ dq))
    refine q_when (et_B (ev_isi (dp_ex e1 _ _ hv) (ev_var rfl) kd.2.2.2.2)) (fun hc H2 e2 => ?_) (fun hc H2 e2 => ?_)
    · have e12 := e1.trans e2
      obtain ⟨a, xs, ds, rfl, rfl, hs, hx⟩ := isa_tuple_t hv hc
      obtain ⟨m, em, lx, gx⟩ := fit_tuple hf
      have hs1 := ex_t e12 hs
      have hx1 := dpa_ex e12 ds _ hx
      have lxs := dpa_len hx1
      refine s_retR (cb_1 ?_)
      refine lc_copyT (ev_var rfl) hs1 lxs lx (fun _ => rfl) (fun i v d hv hd => ?_) fun D ys H3 nD e3 hD dq => ?_
      · obtain ⟨d', hd', p⟩ := dpa_at2 hx1 hv
        have : d' = d := Option.some.inj (hd'.symm.trans hd)
        subst this
        exact cp_call em (ev_var rfl) p (fitAll_mem gx (List.mem_of_getElem? hd))
      · refine ⟨D, ys, rfl, .inl ⟨sq_of hD, fun T nT => ?_⟩⟩
        have eT := Ex.new (o := .tup ys) nT
        exact q _ _ ((e12.trans e3).trans eT) (.tup (new_ex (e12.trans e3) nT) upd_same (dqa_to (fun a n => new_ex e12 n.1) (fun a u _ ha => eT _ _ ha) _ _ dq))
    · have e12 := e1.trans e2
      refine q_when (b := false) (et_B (ev_isi (dp_ex e12 _ _ hv) (ev_var rfl) (kd_dict hv))) (fun h => (nomatch h)) fun _ H3 e3 => ?_
      have e13 := e12.trans e3
      refine s_ret (ev_var rfl) fun H4 e4 => q _ _ (e13.trans e4) (flat_dq (dp_ex (e13.trans e4) _ _ hv) hb hc)
theorem ok_copied {f : Addr} {fd : FuncData} (F : Fun K "copied" "copied" scopied f fd) (g : mg "copied" = some (.ref f)) (b : Binds K fd ["value"] []) (z_isinstance : mg "isinstance" = none) (z_list : mg "list" = none) (z_tuple : mg "tuple" = none) (z_dict : mg "dict" = none) : ∀ n, FnOk P w K mg base CX0 n f fd ["value"] (spCopy K n)
  | 0 => ⟨fun _ _ _ _ ⟨_, _, _, _, h, _⟩ => (nomatch h), fun _ _ _ _ _ _ _ _ _ _ _ _ _ ⟨_, _, _, _, h, _⟩ => (nomatch h)⟩
  | n + 1 => copied_step F z_isinstance z_list z_tuple z_dict ⟨f, fd, _, [], ok_copied F g b z_isinstance z_list z_tuple z_dict n, g, F.kp, b, .nil⟩
end
/-! ### what the program's tests of kinds say -/
def isIntD : PyData → Bool
  | .int _ => true
  | _ => false
def btw (lo hi : Int) : PyData → Bool
  | .int i => decide (lo ≤ i) && decide (i ≤ hi)
  | _ => false
/-- each less than the next -/
def up : List PyData → Bool
  | .int i :: .int j :: r => decide (i < j) && up (.int j :: r)
  | _ => true
def cellsD (c : Nat) : PyData → Bool
  | .list ds => ds.all (btw 0 ((c : Int) - 1)) && up ds
  | _ => false
def rowD (c : Nat) : PyData → Bool
  | .list ds => decide (ds.length = c + 2) && ds.all (btw (-9) 9)
  | _ => false
def listD : PyData → Bool
  | .list _ => true
  | _ => false
def pairD : PyData → Bool
  | .list [a, b] => listD a && listD b
  | _ => false
def szOf (x : Str) : Option Nat :=
  if x = "set" then some 3 else if x = "carry" then some 2 else if x = "keep" then some 3 else if x = "either" then some 3 else if x = "again" then some 2 else if x = "call" then some 4 else if x = "end" then some 2 else none
def sizedD : PyData → Bool
  | .tuple (.str x :: r) => decide (szOf x = some (r.length + 1))
  | _ => false
def stmD (c m : Nat) : PyData → Bool
  | .tuple [.str x, a] => if x = "carry" then rowD c a else if x = "again" then listD a else if x = "end" then btw 0 1 a else false
  | .tuple [.str x, a, b] => if x = "set" then btw 0 ((c : Int) - 1) a && rowD c b else if x = "keep" then cellsD c a && listD b else if x = "either" then listD a && listD b else false
  | .tuple [.str x, a, b, d] => if x = "call" then btw 0 ((m : Int) - 1) a && (rowD c b && pairD d) else false
  | _ => false
def blocksD : PyData → List PyData
  | .tuple [.str x, a] => if x = "again" then [a] else []
  | .tuple [.str x, a, b] => if x = "keep" then [b] else if x = "either" then [a, b] else []
  | .tuple [.str x, _, _, .list [a, b]] => if x = "call" then [a, b] else []
  | _ => []
abbrev sis_integer : Stmt := topS 2
theorem scis_integer : FnScope ["value"] ["value"] (defScope sis_integer) := ⟨rfl, rfl, rfl, by decide +kernel, rfl, by decide +kernel, by decide +kernel⟩
abbrev sis_between : Stmt := topS 3
theorem scis_between : FnScope ["value", "low", "high"] ["value", "low", "high"] (defScope sis_between) := ⟨rfl, rfl, rfl, by decide +kernel, rfl, by decide +kernel, by decide +kernel⟩
abbrev sis_bit : Stmt := topS 4
theorem scis_bit : FnScope ["value"] ["value"] (defScope sis_bit) := ⟨rfl, rfl, rfl, by decide +kernel, rfl, by decide +kernel, by decide +kernel⟩
abbrev sis_index : Stmt := topS 5
theorem scis_index : FnScope ["value", "many"] ["value", "many"] (defScope sis_index) := ⟨rfl, rfl, rfl, by decide +kernel, rfl, by decide +kernel, by decide +kernel⟩
abbrev sis_cell_list : Stmt := topS 6
theorem scis_cell_list : FnScope ["value", "cells", "one", "other", "cell"] ["value", "cells"] (defScope sis_cell_list) := ⟨rfl, rfl, rfl, by decide +kernel, rfl, by decide +kernel, by decide +kernel⟩
abbrev sis_row : Stmt := topS 20
theorem scis_row : FnScope ["value", "cells", "item"] ["value", "cells"] (defScope sis_row) := ⟨rfl, rfl, rfl, by decide +kernel, rfl, by decide +kernel, by decide +kernel⟩
abbrev sis_block_pair : Stmt := topS 21
theorem scis_block_pair : FnScope ["value"] ["value"] (defScope sis_block_pair) := ⟨rfl, rfl, rfl, by decide +kernel, rfl, by decide +kernel, by decide +kernel⟩
abbrev sis_sized : Stmt := topS 22
theorem scis_sized : FnScope ["value"] ["value"] (defScope sis_sized) := ⟨rfl, rfl, rfl, by decide +kernel, rfl, by decide +kernel, by decide +kernel⟩
abbrev sis_statement : Stmt := topS 23
theorem scis_statement : FnScope ["value", "cells", "procedures", "word"] ["value", "cells", "procedures"] (defScope sis_statement) := ⟨rfl, rfl, rfl, by decide +kernel, rfl, by decide +kernel, by decide +kernel⟩
abbrev sblocks_of : Stmt := topS 24
theorem scblocks_of : FnScope ["statement", "word"] ["statement"] (defScope sblocks_of) := ⟨rfl, rfl, rfl, by decide +kernel, rfl, by decide +kernel, by decide +kernel⟩
section
variable {P : Program} {w : World} {K : PySem.W.Frag} {mg : Str → Option Value} {base : Heap} {σ : L2.St} {H : Hp}
/-- a test of one value, and ints beside it -/
def spT (K : PySem.W.Frag) (ns : List Int) (f : PyData → Bool) : Sp := fun vs H Q _ => ∃ (v : V) (d : PyData), vs = v :: ns.map V.int ∧ Dp K H v d ∧ ∀ H', Ex H H' → Q (.bl (f d)) H'
def spInt (K : PySem.W.Frag) : Sp := fun vs H Q _ => ∃ (v : V) (d : PyData), vs = [v] ∧ Dp K H v d ∧ ∀ H', Ex H H' → Q (.bl (isIntD d)) H'
def spBtw (K : PySem.W.Frag) : Sp := fun vs H Q _ => ∃ (v : V) (d : PyData) (lo hi : Int), vs = [v, .int lo, .int hi] ∧ Dp K H v d ∧ ∀ H', Ex H H' → Q (.bl (btw lo hi d)) H'
def spBit (K : PySem.W.Frag) : Sp := fun vs H Q _ => ∃ (v : V) (d : PyData), vs = [v] ∧ Dp K H v d ∧ ∀ H', Ex H H' → Q (.bl (btw 0 1 d)) H'
def spIx (K : PySem.W.Frag) : Sp := fun vs H Q _ => ∃ (v : V) (d : PyData) (n : Int), vs = [v, .int n] ∧ Dp K H v d ∧ ∀ H', Ex H H' → Q (.bl (btw 0 (n - 1) d)) H'
theorem ev_spInt {te : TE} {E : XK} {v : V} {d : PyData} (h : Ev te σ H v) (hd : Dp K H v d) : Ev (tCall (spInt K) [] E (tCons te tNil)) σ H (.bl (isIntD d)) :=
  ev_call (ea_cons h ea_nil) fun H1 e Q q _ => ⟨v, d, rfl, dp_ex e d v hd, q⟩
theorem ev_spBtw {te t1 t2 : TE} {E : XK} {v : V} {d : PyData} {lo hi : Int} (h : Ev te σ H v) (h1 : Ev t1 σ H (.int lo)) (h2 : Ev t2 σ H (.int hi)) (hd : Dp K H v d) : Ev (tCall (spBtw K) [] E (tCons te (tCons t1 (tCons t2 tNil)))) σ H (.bl (btw lo hi d)) :=
  ev_call (ea_cons h (ea_cons h1 (ea_cons h2 ea_nil))) fun H1 e Q q _ => ⟨v, d, lo, hi, rfl, dp_ex e d v hd, q⟩
theorem ev_spBit {te : TE} {E : XK} {v : V} {d : PyData} (h : Ev te σ H v) (hd : Dp K H v d) : Ev (tCall (spBit K) [] E (tCons te tNil)) σ H (.bl (btw 0 1 d)) :=
  ev_call (ea_cons h ea_nil) fun H1 e Q q _ => ⟨v, d, rfl, dp_ex e d v hd, q⟩
theorem ev_spIx {te t1 : TE} {E : XK} {v : V} {d : PyData} {n : Int} (h : Ev te σ H v) (h1 : Ev t1 σ H (.int n)) (hd : Dp K H v d) : Ev (tCall (spIx K) [] E (tCons te (tCons t1 tNil))) σ H (.bl (btw 0 (n - 1) d)) :=
  ev_call (ea_cons h (ea_cons h1 ea_nil)) fun H1 e Q q _ => ⟨v, d, n, rfl, dp_ex e d v hd, q⟩
theorem ev_chain {r r' : R2} {ta tb tc : TE} {x y z : V} {a b : Bool} (h1 : Ev ta σ H x) (h2 : Ev tb σ H y) (hr : RV r x y H (.bl a)) (h3 : a = true → Ev tc σ H z ∧ RV r' y z H (.bl b)) : Ev (tChain r r' ta tb tc) σ H (.bl (a && b)) := fun H1 e Q q =>
  h1 H1 e _ fun H2 e2 => h2 H2 (e.trans e2) _ fun H3 e3 => hr H3 ((e.trans e2).trans e3) _ fun H4 e4 => ⟨a, rfl, by
    have e14 := ((e2.trans e3).trans e4)
    cases a with
    | true =>
      obtain ⟨k1, k2⟩ := h3 rfl
      show tc σ H4 _
      exact k1 H4 (e.trans e14) _ fun H5 e5 => k2 H5 (e.trans (e14.trans e5)) Q fun H6 e6 => q H6 ((e14.trans e5).trans e6)
    | false =>
      show Q (.bl false) H4
      exact q H4 e14⟩
theorem ok_is_integer {f : Addr} {fd : FuncData} {k : Nat} (F : Fun K "is_integer" "is_integer" sis_integer f fd) (z_isinstance : mg "isinstance" = none) (z_int : mg "int" = none) (z_bool : mg "bool" = none) : FnOk P w K mg base CX0 (k + 1) f fd ["value"] (spInt K) := by
  have sc := scis_integer
  refine F.ok sc (fun vs H Q E h => ?_) (fun cdv A outer s H vs Q E hr h => ?_)
  · obtain ⟨v, d, rfl, _⟩ := h
    rfl
  · obtain ⟨v, d, rfl, hd, q⟩ := h
    refine ⟨_, (pss_one (ps_ret (pe_and (pe_callB call_isi (by rfl) z_isinstance (by decide +kernel) (pa_cons (pv 0) (pa_cons (pe_bltn (v := .ty "int") (by rfl) z_int (by decide +kernel) rfl) pa_nil))) (pe_one (pe_not (pe_callB call_isi (by rfl) z_isinstance (by decide +kernel) (pa_cons (pv 0) (pa_cons (pe_bltn (v := .ty "bool") (by rfl) z_bool (by decide +kernel) rfl) pa_nil)))))))), ?_⟩
    have kd := kitB_isa d
    refine s_ret (ev_andV (ev_isi hd (ev_var rfl) kd.2.1) fun _ => ev_notV (ev_isi hd (ev_var rfl) kd.1)) fun H1 e1 => ?_
    have z : (isa d "int" && !isa d "bool") = isIntD d := by
      rw [isa_int, isa_bool]
      cases d <;> rfl
    rw [z]
    exact q H1 e1
theorem isInt_v {v : V} {d : PyData} (h : Dp K H v d) (hi : isIntD d = true) : ∃ i, v = .int i ∧ d = .int i := by
  cases h with
  | int i => exact ⟨i, rfl, rfl⟩
  | _ => cases hi
theorem btw_no {d : PyData} (lo hi : Int) (h : isIntD d = false) : btw lo hi d = false := by
  cases d <;> first | rfl | cases h
theorem ok_is_between {f : Addr} {fd : FuncData} {k : Nat} (F : Fun K "is_between" "is_between" sis_between f fd) (Cis_integer : Cal P w K mg base 1 "is_integer" (spInt K) []) (hk : 1 ≤ k) : FnOk P w K mg base CX0 (k + 1) f fd ["value", "low", "high"] (spBtw K) := by
  have sc := scis_between
  refine F.ok sc (fun vs H Q E h => ?_) (fun cdv A outer s H vs Q E hr h => ?_)
  · obtain ⟨v, d, lo, hi, rfl, _⟩ := h
    rfl
  · obtain ⟨v, d, lo, hi, rfl, hd, q⟩ := h
    refine ⟨_, (pss_one (ps_ret (pe_and (pe_c Cis_integer hr (by omega) (by rfl) (pa_cons (pv 0) pa_nil)) (pe_one (pe_chain op_le op_le (pv 1) (pv 0) (pv 2)))))), ?_⟩
    have z : (isIntD d && btw lo hi d) = btw lo hi d := by
      cases d <;> rfl
    rw [← z] at q
    cases hb : isIntD d with
    | false =>
      rw [hb] at q
      exact s_ret (ev_andV (a := false) (ev_is (ev_spInt (ev_var rfl) hd) (by rw [hb])) fun h => (nomatch h)) fun H1 e1 => q H1 e1
    | true =>
      obtain ⟨i, rfl, rfl⟩ := isInt_v hd hb
      exact s_ret (ev_andV (a := true) (b := decide (lo ≤ i) && decide (i ≤ hi)) (ev_spInt (ev_var rfl) hd) fun _ => ev_chain (ev_var rfl) (ev_var rfl) rv_I0 fun _ => ⟨ev_var rfl, rv_I0⟩) fun H1 e1 => q H1 e1
theorem ok_is_bit {f : Addr} {fd : FuncData} {k : Nat} (F : Fun K "is_bit" "is_bit" sis_bit f fd) (Cis_between : Cal P w K mg base 2 "is_between" (spBtw K) []) (hk : 2 ≤ k) : FnOk P w K mg base CX0 (k + 1) f fd ["value"] (spBit K) := by
  have sc := scis_bit
  refine F.ok sc (fun vs H Q E h => ?_) (fun cdv A outer s H vs Q E hr h => ?_)
  · obtain ⟨v, d, rfl, _⟩ := h
    rfl
  · obtain ⟨v, d, rfl, hd, q⟩ := h
    refine ⟨_, (pss_one (ps_ret (pe_c Cis_between hr (by omega) (by rfl) (pa_cons (pv 0) (pa_cons pe_int (pa_cons pe_int pa_nil)))))), ?_⟩
    exact s_ret (ev_spBtw (ev_var rfl) ev_c ev_c hd) fun H1 e1 => q H1 e1
theorem ok_is_index {f : Addr} {fd : FuncData} {k : Nat} (F : Fun K "is_index" "is_index" sis_index f fd) (Cis_between : Cal P w K mg base 2 "is_between" (spBtw K) []) (hk : 2 ≤ k) : FnOk P w K mg base CX0 (k + 1) f fd ["value", "many"] (spIx K) := by
  have sc := scis_index
  refine F.ok sc (fun vs H Q E h => ?_) (fun cdv A outer s H vs Q E hr h => ?_)
  · obtain ⟨v, d, n, rfl, _⟩ := h
    rfl
  · obtain ⟨v, d, n, rfl, hd, q⟩ := h
    refine ⟨_, (pss_one (ps_ret (pe_c Cis_between hr (by omega) (by rfl) (pa_cons (pv 0) (pa_cons pe_int (pa_cons (pe_op op_sub (pv 1) pe_int) pa_nil)))))), ?_⟩
    exact s_ret (ev_spBtw (ev_var rfl) ev_c (ev_op (ev_var rfl) ev_c rv_I0) hd) fun H1 e1 => q H1 e1
end
section
variable {P : Program} {w : World} {K : PySem.W.Frag} {mg : Str → Option Value} {base : Heap} {σ : L2.St} {H : Hp}
theorem ev_allN {te : TE} {bs : List Bool} (h : EvL te σ H (bs.map V.bl)) : Ev (tCB (rAll K) (tCons te tNil)) σ H (.bl (bs.all id)) := fun H1 e Q q =>
  h H1 e _ fun p H2 _ e2 h2 => ⟨p, bs, rfl, sq_of h2, q H2 e2⟩
/-- [f(x, ..) for x in xs], f a test -/
theorem el_tests {tl te : TE} {a : Addr} {xs : List V} {ds : List PyData} {j : Nat} {vs : List Nat} (p : PyData → Bool) (h : Ev tl σ H (.ref a)) (hs : SqL K H a xs) (hx : DpAll K H xs ds) (hl : ds.length ≤ 10000) (hw : ∀ x, wipe ((wipe σ vs).set j (some x)) vs = wipe σ vs)
    (he : ∀ (v : V) (d : PyData) H1, Ex H H1 → Dp K H1 v d → Ev te ((wipe σ vs).set j (some v)) H1 (.bl (p d))) : EvL (tLc (iList K tl) (gName j) tYes te vs) σ H ((ds.map p).map V.bl) := by
  have lxs := dpa_len hx
  refine el_is (el_lcL (fun _ => true) (fun i => .bl (p (ds.getD i .none))) h hs (by omega) hw (fun _ _ _ _ _ => et_yes) (fun i x H1 e1 hi _ => ?_)) ?_
  · have hi2 : i < ds.length := by have := (List.getElem?_eq_some_iff.mp hi).1; omega
    obtain ⟨v, h1, h2⟩ := dpa_at hx hi2
    have : v = x := Option.some.inj (h1.symm.trans hi)
    subst this
    exact he v _ H1 e1 (dp_ex e1 _ _ h2)
  · rw [given_all, lxs, List.map_map]
    refine List.ext_getElem (by simp) fun i h1 h2 => ?_
    have hi : i < ds.length := by simpa using h1
    simp only [List.getElem_map, List.getElem_range]
    rw [List.getD_eq_getElem?_getD, List.getElem?_eq_getElem hi]
    rfl
theorem all_map (p : PyData → Bool) (ds : List PyData) : (ds.map p).all id = ds.all p := by
  rw [List.all_map]; rfl
def spRw (K : PySem.W.Frag) : Sp := fun vs H Q _ => ∃ (v : V) (d : PyData) (c n : Nat), vs = [v, .int (c : Int)] ∧ Dp K H v d ∧ fit d n = true ∧ ∀ H', Ex H H' → Q (.bl (rowD c d)) H'
theorem ev_spRw {te t1 : TE} {E : XK} {v : V} {d : PyData} {c n : Nat} (h : Ev te σ H v) (h1 : Ev t1 σ H (.int (c : Int))) (hd : Dp K H v d) (hf : fit d n = true) : Ev (tCall (spRw K) [] E (tCons te (tCons t1 tNil))) σ H (.bl (rowD c d)) :=
  ev_call (ea_cons h (ea_cons h1 ea_nil)) fun H1 e Q q _ => ⟨v, d, c, n, rfl, dp_ex e d v hd, hf, q⟩
theorem rowD_list {c : Nat} {d : PyData} (h : isa d "list" = false) : rowD c d = false ∧ cellsD c d = false ∧ pairD d = false ∧ listD d = false := by
  rw [isa_list] at h
  cases d <;> first | exact ⟨rfl, rfl, rfl, rfl⟩ | cases h
theorem ok_is_row {f : Addr} {fd : FuncData} {k : Nat} {tk : Tok} (F : Fun K "is_row" "is_row" sis_row f fd) (z_isinstance : mg "isinstance" = none) (z_list : mg "list" = none) (z_len : mg "len" = none) (z_all : mg "all" = none) (c_ROW_LIMIT : mg "ROW_LIMIT" = some (.int 9 tk)) (Cis_between : Cal P w K mg base 2 "is_between" (spBtw K) []) (hk : 2 ≤ k) :
    FnOk P w K mg base CX0 (k + 1) f fd ["value", "cells"] (spRw K) := by
  have sc := scis_row
  refine F.ok sc (fun vs H Q E h => ?_) (fun cdv A outer s H vs Q E hr h => ?_)
  · obtain ⟨v, d, c, n, rfl, _⟩ := h
    rfl
  · obtain ⟨v, d, c, n, rfl, hd, hf, q⟩ := h
    refine ⟨_, (pss_cons (ps_if (PW.pt (pw_or (pt_not (pt_val (pe_callB call_isi (by rfl) z_isinstance (by decide +kernel) (pa_cons (pv 0) (pa_cons (pe_bltn (v := .ty "list") (by rfl) z_list (by decide +kernel) rfl) pa_nil))))) (pw_or1 (pt_cmpR op_ne (pe_callB call_len_seq (by rfl) z_len (by decide +kernel) (pa_cons (pv 0) pa_nil)) (pe_op op_add (pv 1) pe_int) (nomark _)))))
      (pss_one (ps_ret pe_bl))
      pss_nil)
      (pss_one (ps_ret (pe_callB (cr_all rfl) (by rfl) z_all (by decide +kernel) (pa_cons (pe_lc (own := [("item", 2)]) (by rfl) sc.nd (pi_list (pv 0)) (blkOk_by (own := [("item", 2)]) (N := ["value", "cells", "item"]) (sc := defScope sis_row) (by decide +kernel)) (fun _ _ _ _ _ => (pg_name (i := 2) sc.nd rfl (by first | exact Or.inl rfl | exact Or.inr rfl))) (fun _ _ _ _ _ => pts_nil) (fun _ _ _ _ _ => (pe_c Cis_between hr (by omega) (by rfl) (pa_cons (pv 2) (pa_cons (pe_un un_neg (pe_glob (v := .int 9) (by rfl) c_ROW_LIMIT ⟨_, rfl⟩)) (pa_cons (pe_glob (v := .int 9) (by rfl) c_ROW_LIMIT ⟨_, rfl⟩) pa_nil)))))) pa_nil))))), ?_⟩
    have kd := kitB_isa d
    cases hb : isa d "list" with
    | false =>
      refine q_when (b := true) (et_or (a := true) (b := false) (et_is (et_not (et_B (ev_isi hd (ev_var rfl) kd.2.2.2.1))) (by rw [hb]; rfl)) fun h => (nomatch h)) (fun _ H1 e1 => ?_) (fun h => (nomatch h))
      rw [(rowD_list (c := c) hb).1] at q
      exact s_ret ev_c fun H2 e2 => q H2 (e1.trans e2)
    | true =>
      obtain ⟨a, xs, ds, rfl, rfl, hs, hx⟩ := isa_list_t hd hb
      obtain ⟨m, em, lx, gx⟩ := fit_list hf
      have lxs := dpa_len hx
      refine q_when (et_or (a := false) (et_is (et_not (et_B (ev_isi hd (ev_var rfl) kd.2.2.2.1))) (by rw [hb]; rfl)) fun _ => et_test (ev_op (ev_lenS (ev_var rfl) (.inl hs)) (ev_op (ev_var rfl) ev_c rv_I0) (rv_ne rfl))) (fun hl H1 e1 => ?_) (fun hl H1 e1 => ?_)
      · refine s_ret ev_c fun H2 e2 => ?_
        have z : false = rowD c (.list ds) := by
          have : ds.length ≠ c + 2 := fun e => by
            rw [lxs, e, Int.natCast_add] at hl
            simp at hl
          rw [rowD, decide_eq_false this]; rfl
        rw [z]
        exact q H2 (e1.trans e2)
      · refine s_ret (ev_allN (el_tests (btw (-9) 9) (ev_var rfl) (ex_l e1 hs) (dpa_ex e1 ds _ hx) lx (fun _ => rfl) fun v d H2 e2 hv => ev_spBtw (ev_var rfl) (ev_un ev_c ru_neg) ev_c hv)) fun H2 e2 => ?_
        have z : (ds.map (btw (-9) 9)).all id = rowD c (.list ds) := by
          have : ds.length = c + 2 := by
            have h2 : V.int (xs.length : Int) = V.int ((c : Int) + 2) := of_decide_eq_true (by simpa using hl)
            have := V.int.inj h2
            omega
          rw [all_map, rowD, decide_eq_true this, Bool.true_and]
        rw [z]
        exact q H2 (e1.trans e2)
def spPair (K : PySem.W.Frag) : Sp := fun vs H Q _ => ∃ (v : V) (d : PyData), vs = [v] ∧ Dp K H v d ∧ ∀ H', Ex H H' → Q (.bl (pairD d)) H'
theorem listD_isa (d : PyData) : listD d = isa d "list" := by
  rw [isa_list]; cases d <;> rfl
theorem ok_is_block_pair {f : Addr} {fd : FuncData} {k : Nat} (F : Fun K "is_block_pair" "is_block_pair" sis_block_pair f fd) (z_isinstance : mg "isinstance" = none) (z_list : mg "list" = none) (z_len : mg "len" = none) : FnOk P w K mg base CX0 (k + 1) f fd ["value"] (spPair K) := by
  have sc := scis_block_pair
  refine F.ok sc (fun vs H Q E h => ?_) (fun cdv A outer s H vs Q E hr h => ?_)
  · obtain ⟨v, d, rfl, _⟩ := h
    rfl
  · obtain ⟨v, d, rfl, hd, q⟩ := h
    refine ⟨_, (pss_cons (ps_if (PW.pt (pw_or (pt_not (pt_val (pe_callB call_isi (by rfl) z_isinstance (by decide +kernel) (pa_cons (pv 0) (pa_cons (pe_bltn (v := .ty "list") (by rfl) z_list (by decide +kernel) rfl) pa_nil))))) (pw_or1 (pt_cmpR op_ne (pe_callB call_len_seq (by rfl) z_len (by decide +kernel) (pa_cons (pv 0) pa_nil)) pe_int (nomark _)))))
      (pss_one (ps_ret pe_bl))
      pss_nil)
      (pss_one (ps_ret (pe_and (pe_callB call_isi (by rfl) z_isinstance (by decide +kernel) (pa_cons (pe_ix ix_list (pv 0) pe_int (fun _ _ => rfl)) (pa_cons (pe_bltn (v := .ty "list") (by rfl) z_list (by decide +kernel) rfl) pa_nil))) (pe_one (pe_callB call_isi (by rfl) z_isinstance (by decide +kernel) (pa_cons (pe_ix ix_list (pv 0) pe_int (fun _ _ => rfl)) (pa_cons (pe_bltn (v := .ty "list") (by rfl) z_list (by decide +kernel) rfl) pa_nil)))))))), ?_⟩
    have kd := kitB_isa d
    cases hb : isa d "list" with
    | false =>
      refine q_when (b := true) (et_or (a := true) (b := false) (et_is (et_not (et_B (ev_isi hd (ev_var rfl) kd.2.2.2.1))) (by rw [hb]; rfl)) fun h => (nomatch h)) (fun _ H1 e1 => ?_) (fun h => (nomatch h))
      rw [(rowD_list (c := 0) hb).2.2.1] at q
      exact s_ret ev_c fun H2 e2 => q H2 (e1.trans e2)
    | true =>
      obtain ⟨a, xs, ds, rfl, rfl, hs, hx⟩ := isa_list_t hd hb
      have lxs := dpa_len hx
      refine q_when (et_or (a := false) (et_is (et_not (et_B (ev_isi hd (ev_var rfl) kd.2.2.2.1))) (by rw [hb]; rfl)) fun _ => et_test (ev_op (ev_lenS (ev_var rfl) (.inl hs)) ev_c (rv_ne rfl))) (fun hl H1 e1 => ?_) (fun hl H1 e1 => ?_)
      · refine s_ret ev_c fun H2 e2 => ?_
        have z : false = pairD (.list ds) := by
          match ds, lxs with
          | [], _ => rfl
          | [_], _ => rfl
          | [_, _], h => rw [h] at hl; simp at hl
          | _ :: _ :: _ :: _, _ => rfl
        rw [z]
        exact q H2 (e1.trans e2)
      · have h2 : V.int (xs.length : Int) = V.int 2 := of_decide_eq_true (by simpa using hl)
        have h3 := V.int.inj h2
        match ds, hx, lxs with
        | [], _, h => exact absurd (show xs.length = 0 from h) (by omega)
        | [_], _, h => exact absurd (show xs.length = 1 from h) (by omega)
        | _ :: _ :: _ :: r, _, h => exact absurd (show xs.length = r.length + 1 + 1 + 1 from h) (by omega)
        | [d1, d2], .cons (v := v1) p1 (.cons (v := v2) p2 .nil), _ =>
          have k1 := kitB_isa d1
          have k2 := kitB_isa d2
          refine s_ret (ev_andV (ev_isi (dp_ex e1 _ _ p1) (ev_op (ev_var rfl) ev_c (rv_ixL (ex_l e1 hs) (atI_nat (j := 0) rfl))) k1.2.2.2.1) fun _ => ev_isi (dp_ex e1 _ _ p2) (ev_op (ev_var rfl) ev_c (rv_ixL (ex_l e1 hs) (atI_nat (j := 1) rfl))) k2.2.2.2.1) fun H2 e2 => ?_
          rw [← listD_isa, ← listD_isa]
          exact q H2 (e1.trans e2)
end
section
variable {P : Program} {w : World} {K : PySem.W.Frag} {mg : Str → Option Value} {base : Heap} {σ : L2.St} {H : Hp}
/-- the written dict of sizes -/
structure Sizes (K : PySem.W.Frag) (w : World) (a : Addr) (es : Array DictEntry) (n : Nat) (ok : Str → Prop) : Prop where
  d : KDict K w a es n
  yes : ∀ x m, ok x → szOf x = some m → ∃ t, PySem.W.nsIn K a x = some (some (.int (m : Int) t))
  no : ∀ x, ok x → szOf x = none → PySem.W.nsIn K a x = some none
/-- the first word is a known one -/
def wordOk (ok : Str → Prop) : PyData → Prop
  | .tuple (.str x :: _) => ok x
  | _ => True
def spSized (K : PySem.W.Frag) (ok : Str → Prop) : Sp := fun vs H Q _ => ∃ (v : V) (d : PyData), vs = [v] ∧ Dp K H v d ∧ wordOk ok d ∧ ∀ H', Ex H H' → Q (.bl (sizedD d)) H'
theorem et_truT {a : Addr} {xs : List V} {te : TE} (h : Ev te σ H (.ref a)) (hs : SqT K H a xs) : EvT (fun σ H Q => te σ H fun x H' => ∃ k, TruV K x H' k ∧ Q k H') σ H (!xs.isEmpty) := fun H1 e Q q =>
  h H1 e _ fun H2 e2 => ⟨_, .inr (.inl ⟨xs, ex_t (e.trans e2) hs, rfl⟩), q H2 e2⟩
theorem et_truL {a : Addr} {xs : List V} {te : TE} (h : Ev te σ H (.ref a)) (hs : SqL K H a xs) : EvT (fun σ H Q => te σ H fun x H' => ∃ k, TruV K x H' k ∧ Q k H') σ H (!xs.isEmpty) := fun H1 e Q q =>
  h H1 e _ fun H2 e2 => ⟨_, .inl ⟨xs, ex_l (e.trans e2) hs, rfl⟩, q H2 e2⟩
theorem rv_notInKd {a : Addr} {x : Str} {r : Option Value} (h : PySem.W.nsIn K a x = some r) : RV (fun x y H Q => ∃ (z : Str) (r : Option Value), x = .str z ∧ y = .ref a ∧ PySem.W.nsIn K a z = some r ∧ Q (.bl (!r.isSome)) H) (.str x) (.ref a) H (.bl (!r.isSome)) :=
  rv_val fun _ _ _ q => ⟨x, r, rfl, rfl, h, q⟩
theorem sizedD_no {d : PyData} (h : isa d "tuple" = false) : sizedD d = false := by
  rw [isa_tuple] at h
  cases d <;> first | rfl | cases h
theorem ok_is_sized {f : Addr} {fd : FuncData} {k : Nat} {a_SIZES : Addr} {es : Array DictEntry} {en : Nat} {ok : Str → Prop} (F : Fun K "is_sized" "is_sized" sis_sized f fd) (z_isinstance : mg "isinstance" = none) (z_tuple : mg "tuple" = none) (z_str : mg "str" = none) (z_len : mg "len" = none)
    (c_SIZES : mg "SIZES" = some (.ref a_SIZES)) (S : Sizes K w a_SIZES es en ok) : FnOk P w K mg base CX0 (k + 1) f fd ["value"] (spSized K ok) := by
  have sc := scis_sized
  refine F.ok sc (fun vs H Q E h => ?_) (fun cdv A outer s H vs Q E hr h => ?_)
  · obtain ⟨v, d, rfl, _⟩ := h
    rfl
  · obtain ⟨v, d, rfl, hd, hw, q⟩ := h
    refine ⟨_, (pss_cons (ps_if (PW.pt (pw_or (pt_not (pt_val (pe_callB call_isi (by rfl) z_isinstance (by decide +kernel) (pa_cons (pv 0) (pa_cons (pe_bltn (v := .ty "tuple") (by rfl) z_tuple (by decide +kernel) rfl) pa_nil))))) (pw_or1 (pt_not (pt_truth (pv 0) (by intro _; rfl))))))
      (pss_one (ps_ret pe_bl))
      pss_nil)
      (pss_cons (ps_if (PW.pt (pw_or (pt_not (pt_val (pe_callB call_isi (by rfl) z_isinstance (by decide +kernel) (pa_cons (pe_ix ix_tup (pv 0) pe_int (fun _ _ => rfl)) (pa_cons (pe_bltn (v := .ty "str") (by rfl) z_str (by decide +kernel) rfl) pa_nil))))) (pw_or1 (pt_cmpR (op_notIn_kd S.d) (pe_ix ix_tup (pv 0) pe_int (fun _ _ => rfl)) (pe_glob (v := .ref a_SIZES) (by rfl) c_SIZES rfl) (by rfl)))))
      (pss_one (ps_ret pe_bl))
      pss_nil)
      (pss_one (ps_ret (pe_cmpR op_eq (pe_callB call_len_seq (by rfl) z_len (by decide +kernel) (pa_cons (pv 0) pa_nil)) (pe_ix ix_kdict (pe_glob (v := .ref a_SIZES) (by rfl) c_SIZES rfl) (pe_ix ix_tup (pv 0) pe_int (fun _ _ => rfl)) (fun _ _ => rfl)) (nomark _)))))), ?_⟩
    have kd := kitB_isa d
    cases hb : isa d "tuple" with
    | false =>
      refine q_when (b := true) (et_or (a := true) (b := false) (et_is (et_not (et_B (ev_isi hd (ev_var rfl) kd.2.2.2.2))) (by rw [hb]; rfl)) fun h => (nomatch h)) (fun _ H1 e1 => ?_) (fun h => (nomatch h))
      rw [sizedD_no hb] at q
      exact s_ret ev_c fun H2 e2 => q H2 (e1.trans e2)
    | true =>
      obtain ⟨a, xs, ds, rfl, rfl, hs, hx⟩ := isa_tuple_t hd hb
      have lxs := dpa_len hx
      refine q_when (et_or (a := false) (et_is (et_not (et_B (ev_isi hd (ev_var rfl) kd.2.2.2.2))) (by rw [hb]; rfl)) fun _ => et_not (et_truT (ev_var rfl) hs)) (fun hl H1 e1 => ?_) (fun hl H1 e1 => ?_)
      · have hx0 : xs = [] := by cases xs with
          | nil => rfl
          | cons _ _ => simp at hl
        have hd0 : ds = [] := by
          rw [hx0] at lxs
          exact List.length_eq_zero_iff.mp lxs.symm
        subst hd0
        exact s_ret ev_c fun H2 e2 => q H2 (e1.trans e2)
      · match ds, hx, lxs with
        | [], .nil, _ => simp at hl
        | d0 :: dr, .cons (v := v0) (vs := vr) p0 pr, lxs =>
          have k0 := kitB_isa d0
          have it : ∀ H2, Ex H H2 → Ev (tOp (rIxT K) (tVar 0) (tC (.int 0))) [some (V.ref a)] H2 v0 := fun H2 e2 => ev_op (ev_var rfl) ev_c (rv_ixT (ex_t e2 hs) (atI_nat (j := 0) rfl))
          cases hs0 : isa d0 "str" with
          | false =>
            refine q_when (b := true) (et_or (a := true) (b := false) (et_is (et_not (et_B (ev_isi (dp_ex e1 _ _ p0) (it _ e1) k0.2.2.1))) (by rw [hs0]; rfl)) fun h => (nomatch h)) (fun _ H2 e2 => ?_) (fun h => (nomatch h))
            have z : sizedD (.tuple (d0 :: dr)) = false := by
              rw [isa_str] at hs0
              cases d0 <;> first | rfl | cases hs0
            rw [z] at q
            exact s_ret ev_c fun H3 e3 => q H3 ((e1.trans e2).trans e3)
          | true =>
            obtain ⟨x, rfl, rfl⟩ : ∃ x, v0 = .str x ∧ d0 = .str x := by
              rw [isa_str] at hs0
              cases p0 <;> first | exact ⟨_, rfl, rfl⟩ | cases hs0
            have hwx : ok x := hw
            cases hz : szOf x with
            | none =>
              have hno := S.no x hwx hz
              refine q_when (et_or (a := false) (b := true) (et_is (et_not (et_B (ev_isi (dp_ex e1 _ _ p0) (it _ e1) k0.2.2.1))) (by rw [hs0]; rfl)) fun _ => et_test (ev_op (it _ e1) ev_c (rv_notInKd hno))) (fun _ H2 e2 => ?_) (fun h => (nomatch h))
              have z : sizedD (.tuple (.str x :: dr)) = false := by rw [sizedD, hz]; rfl
              rw [z] at q
              exact s_ret ev_c fun H3 e3 => q H3 ((e1.trans e2).trans e3)
            | some m =>
              obtain ⟨t, hyes⟩ := S.yes x m hwx hz
              refine q_when (et_or (a := false) (b := false) (et_is (et_not (et_B (ev_isi (dp_ex e1 _ _ p0) (it _ e1) k0.2.2.1))) (by rw [hs0]; rfl)) fun _ => et_test (ev_op (it _ e1) ev_c (rv_notInKd hyes))) (fun h => (nomatch h)) (fun _ H2 e2 => ?_)
              have e12 := e1.trans e2
              refine s_ret (ev_op (ev_lenS (ev_var rfl) (.inr (ex_t e12 hs))) (ev_op ev_c (it _ e12) (rv_val (z := .int (m : Int)) fun _ _ _ q => ⟨a_SIZES, x, .int (m : Int), rfl, rfl, ⟨es, en, _, S.d.at_, S.d.lit, hyes, ⟨t, rfl⟩⟩, q⟩)) (rv_eq rfl)) fun H3 e3 => ?_
              have z : decide (V.int ((V.str x :: vr).length : Int) = V.int (m : Int)) = sizedD (.tuple (.str x :: dr)) := by
                rw [sizedD, hz]
                have l2 : (V.str x :: vr).length = dr.length + 1 := lxs
                rw [l2]
                by_cases e : m = dr.length + 1
                · rw [e, decide_eq_true rfl, decide_eq_true rfl]
                · rw [decide_eq_false fun h => e (by have := V.int.inj h; omega), decide_eq_false fun h => e (Option.some.inj h)]
              rw [z]
              exact q H3 (e12.trans e3)
end
/-! ### a tuple as a comprehension's target -/
section
variable {X : Cx}
theorem pg_tupK {K : PySem.W.Frag} {es : List Expr} {n k : Nat} {pos : Pos} {t : TGs} (hK : X.K = K) (hc : X.calm = true) (h : PGs X es t)
    (hn : (assignEach es X.env).length = n := by rfl) (hst : (assignEach es X.env).findIdx? (·.1) = none := by rfl) : PG X (.Tuple es k pos) (gTup K n t) := by
  subst hK
  exact pg_tup hc h hn hst
end
section
variable {P : Program} {w : World} {K : PySem.W.Frag} {mg : Str → Option Value} {base : Heap} {σ : L2.St} {H : Hp}
theorem cut1 (xs : List V) : cutV xs (some 1) none = xs.drop 1 := by
  unfold cutV
  rw [show HT.sIx xs.length 0 (some 1) = min 1 xs.length from HT.sIx_nat xs.length 0 1, HT.sIx_none]
  cases xs with
  | nil => rfl
  | cons x r =>
    rw [show min 1 (x :: r).length = 1 by rw [List.length_cons]; omega]
    show (List.take ((x :: r).length - 1) r) = r
    rw [List.length_cons, Nat.add_sub_cancel]
    exact List.take_length
theorem all_btw {lo hi : Int} : ∀ {ds : List PyData}, ds.all (btw lo hi) = true → ∃ ns : List Int, ds = ns.map PyData.int
  | [], _ => ⟨[], rfl⟩
  | d :: r, h => by
    rw [List.all_cons, Bool.and_eq_true] at h
    obtain ⟨ns, e⟩ := all_btw h.2
    cases d with
    | int i => exact ⟨i :: ns, by rw [e]; rfl⟩
    | _ => cases h.1
theorem dpa_ofInts : ∀ {xs : List V} {ns : List Int}, DpAll K H xs (ns.map PyData.int) → xs = ns.map V.int
  | _, [], .nil => rfl
  | _, n :: r, .cons a b => by
    cases a
    rw [dpa_ofInts b]; rfl
def lessAt (ns : List Int) (i : Nat) : Bool := decide (ns.getD i 0 < ns.getD (i + 1) 0)
theorem up_ints : ∀ ns : List Int, ((List.range (ns.length - 1)).map (lessAt ns)).all id = up (ns.map PyData.int)
  | [] => rfl
  | [a] => rfl
  | a :: b :: r => by
    have ih := up_ints (b :: r)
    show ((List.range (r.length + 1)).map (lessAt (a :: b :: r))).all id = (decide (a < b) && up ((b :: r).map PyData.int))
    rw [← ih, List.range_succ_eq_map, List.map_cons, List.all_cons, List.map_map]
    rfl
def spCl (K : PySem.W.Frag) : Sp := fun vs H Q _ => ∃ (v : V) (d : PyData) (c n : Nat), vs = [v, .int (c : Int)] ∧ Dp K H v d ∧ fit d n = true ∧ ∀ H', Ex H H' → Q (.bl (cellsD c d)) H'
theorem ev_spCl {te t1 : TE} {E : XK} {v : V} {d : PyData} {c n : Nat} (h : Ev te σ H v) (h1 : Ev t1 σ H (.int (c : Int))) (hd : Dp K H v d) (hf : fit d n = true) : Ev (tCall (spCl K) [] E (tCons te (tCons t1 tNil))) σ H (.bl (cellsD c d)) :=
  ev_call (ea_cons h (ea_cons h1 ea_nil)) fun H1 e Q q _ => ⟨v, d, c, n, rfl, dp_ex e d v hd, hf, q⟩
theorem ok_is_cell_list {f : Addr} {fd : FuncData} {k : Nat} (F : Fun K "is_cell_list" "is_cell_list" sis_cell_list f fd) (z_isinstance : mg "isinstance" = none) (z_list : mg "list" = none) (z_all : mg "all" = none) (z_zip : mg "zip" = none) (Cis_index : Cal P w K mg base 3 "is_index" (spIx K) []) (hk : 3 ≤ k) :
    FnOk P w K mg base CX0 (k + 1) f fd ["value", "cells"] (spCl K) := by
  have sc := scis_cell_list
  refine F.ok sc (fun vs H Q E h => ?_) (fun cdv A outer s H vs Q E hr h => ?_)
  · obtain ⟨v, d, c, n, rfl, _⟩ := h
    rfl
  · obtain ⟨v, d, c, n, rfl, hd, hf, q⟩ := h
    refine ⟨_, (pss_cons (ps_if (pt_not (pt_val (pe_callB call_isi (by rfl) z_isinstance (by decide +kernel) (pa_cons (pv 0) (pa_cons (pe_bltn (v := .ty "list") (by rfl) z_list (by decide +kernel) rfl) pa_nil)))))
      (pss_one (ps_ret pe_bl))
      pss_nil)
      (pss_cons (ps_if (pt_not (pt_val (pe_callB (cr_all rfl) (by rfl) z_all (by decide +kernel) (pa_cons (pe_lc (own := [("cell", 4)]) (by rfl) sc.nd (pi_list (pv 0)) (blkOk_by (own := [("cell", 4)]) (N := ["value", "cells", "one", "other", "cell"]) (sc := defScope sis_cell_list) (by decide +kernel)) (fun _ _ _ _ _ => (pg_name (i := 4) sc.nd rfl (by first | exact Or.inl rfl | exact Or.inr rfl))) (fun _ _ _ _ _ => pts_nil) (fun _ _ _ _ _ => (pe_c Cis_index hr (by omega) (by rfl) (pa_cons (pv 4) (pa_cons (pv 1) pa_nil))))) pa_nil))))
      (pss_one (ps_ret pe_bl))
      pss_nil)
      (pss_one (ps_ret (pe_callB (cr_all rfl) (by rfl) z_all (by decide +kernel) (pa_cons (pe_lc (own := [("one", 2), ("other", 3)]) (by rfl) sc.nd (pi_zip (by rfl) z_zip (pa_cons (pv 0) (pa_cons (pe_slice sl_list (pv 0) (po_some pe_int) po_none) pa_nil))) (blkOk_by (own := [("one", 2), ("other", 3)]) (N := ["value", "cells", "one", "other", "cell"]) (sc := defScope sis_cell_list) (by decide +kernel)) (fun _ _ _ _ _ => (pg_tupK (K := K) (n := 2) rfl rfl (pgs_cons (pg_name (i := 2) sc.nd rfl (by first | exact Or.inl rfl | exact Or.inr rfl)) (pgs_cons (pg_name (i := 3) sc.nd rfl (by first | exact Or.inl rfl | exact Or.inr rfl)) pgs_nil)))) (fun _ _ _ _ _ => pts_nil) (fun _ _ _ _ _ => (pe_cmpR op_lt (pv 2) (pv 3) (nomark _)))) pa_nil)))))), ?_⟩
    have kd := kitB_isa d
    refine q_when (et_not (et_B (ev_isi hd (ev_var rfl) kd.2.2.2.1))) (fun hb H1 e1 => ?_) (fun hb H1 e1 => ?_)
    · rw [Bool.not_eq_true'] at hb
      rw [(rowD_list (c := c) hb).2.1] at q
      exact s_ret ev_c fun H2 e2 => q H2 (e1.trans e2)
    rw [Bool.not_eq_false'] at hb
    obtain ⟨a, xs, ds, rfl, rfl, hs, hx⟩ := isa_list_t hd hb
    obtain ⟨m, em, lx, gx⟩ := fit_list hf
    have lxs := dpa_len hx
    refine q_when (et_not (et_B (ev_allN (el_tests (btw 0 ((c : Int) - 1)) (ev_var rfl) (ex_l e1 hs) (dpa_ex e1 ds _ hx) lx (fun _ => rfl) fun v d H2 e2 hv => ev_spIx (ev_var rfl) (ev_var rfl) hv)))) (fun hc H2 e2 => ?_) (fun hc H2 e2 => ?_)
    · rw [Bool.not_eq_true', all_map] at hc
      rw [cellsD, hc] at q
      exact s_ret ev_c fun H3 e3 => q H3 ((e1.trans e2).trans e3)
    rw [Bool.not_eq_false', all_map] at hc
    have e12 := e1.trans e2
    rw [cellsD, hc, Bool.true_and] at q
    obtain ⟨ns, rfl⟩ := all_btw hc
    obtain rfl := dpa_ofInts hx
    rw [List.length_map] at lxs lx
    have hs2 := ex_l e12 hs
    refine s_retR (cb_1 ?_)
    refine ⟨.ref a, rfl, .ref a, rfl, 1, rfl, a, ns.map V.int, rfl, hs2, fun C nC => ?_⟩
    rw [cut1, ← List.map_drop]
    have eC := Ex.new (o := .lst ((ns.drop 1).map V.int)) nC
    have e3 := e12.trans eC
    refine ⟨a, C, ns.map V.int, (ns.drop 1).map V.int, rfl, ex_l eC hs2, sq_of upd_same, fun D nD => ?_⟩
    refine lc_it (walk_zip (n := ns.length - 1) (xs := ns.map V.int) (ys := (ns.drop 1).map V.int) (by rw [List.length_map, List.length_map, List.length_drop]; omega)) (fun i H' => Ex (upd H2 C (.lst ((ns.drop 1).map V.int))) H' ∧ H' D = some (.lst (((List.range i).map (lessAt ns)).map V.bl)))
      ⟨Ex.new nD, upd_same⟩ (fun i H' _ p => ⟨ex_l (eC.trans p.1) hs2, sq_of (p.1 _ _ upd_same)⟩) (fun i v H' H3 hi p y => ?_) (fun H' p => ?_)
    · obtain ⟨p1, p2⟩ := p
      obtain ⟨T, x, z, rfl, nT, rfl, hx, hz⟩ := y
      have h1 : i < ns.length := by omega
      have h2 : i + 1 < ns.length := by omega
      have hx : (ns.map V.int)[i]? = some x := hx
      have hz : ((ns.drop 1).map V.int)[i]? = some z := hz
      rw [List.getElem?_map, List.getElem?_eq_getElem h1] at hx
      have hx : V.int ns[i] = x := Option.some.inj hx
      subst hx
      rw [List.getElem?_map, List.getElem?_drop, Nat.add_comm 1 i, List.getElem?_eq_getElem h2] at hz
      have hz : V.int ns[i + 1] = z := Option.some.inj hz
      subst hz
      refine ⟨T, [.int ns[i], .int ns[i + 1]], rfl, .inl (.inl upd_same), rfl, .int ns[i], [.int ns[i + 1]], rfl, .int ns[i + 1], [], rfl, rfl, ?_⟩
      refine ⟨rfl, .int ns[i], rfl, .int ns[i + 1], rfl, ns[i], ns[i + 1], rfl, rfl, _, Ex.new nT _ _ p2, ?_, (p1.trans (Ex.new nT)).mut nD, ?_⟩
      · rw [List.length_map, List.length_map, List.length_range]; exact sz_lt (by omega)
      · rw [upd_same, List.range_succ, List.map_append, List.map_append]
        have : decide (ns[i] < ns[i + 1]) = lessAt ns i := by
          rw [lessAt, List.getD_eq_getElem?_getD, List.getD_eq_getElem?_getD, List.getElem?_eq_getElem h1, List.getElem?_eq_getElem h2]
          rfl
        exact congrArg (fun b => some (HO.lst (((List.range i).map (lessAt ns)).map V.bl ++ [V.bl b]))) this
    · refine ⟨D, _, rfl, sq_of p.2, ?_⟩
      rw [up_ints]
      exact q H' (e3.trans p.1)
/-! ### statements -/
theorem sized_cases {d : PyData} (h : sizedD d = true) : (∃ a, d = .tuple [.str "carry", a]) ∨ (∃ a, d = .tuple [.str "again", a]) ∨ (∃ a, d = .tuple [.str "end", a]) ∨ (∃ a b, d = .tuple [.str "set", a, b]) ∨ (∃ a b, d = .tuple [.str "keep", a, b]) ∨
    (∃ a b, d = .tuple [.str "either", a, b]) ∨ ∃ a b e, d = .tuple [.str "call", a, b, e] := by
  match d, h with
  | .tuple (.str x :: r), h =>
    rw [sizedD, decide_eq_true_eq] at h
    unfold szOf at h
    split at h
    · rename_i e; subst e
      match r, h with
      | [a, b], _ => exact .inr (.inr (.inr (.inl ⟨a, b, rfl⟩)))
      | [], h | [_], h | _ :: _ :: _ :: _, h => simp at h
    · split at h
      · rename_i e; subst e
        match r, h with
        | [a], _ => exact .inl ⟨a, rfl⟩
        | [], h | _ :: _ :: _, h => simp at h
      · split at h
        · rename_i e; subst e
          match r, h with
          | [a, b], _ => exact .inr (.inr (.inr (.inr (.inl ⟨a, b, rfl⟩))))
          | [], h | [_], h | _ :: _ :: _ :: _, h => simp at h
        · split at h
          · rename_i e; subst e
            match r, h with
            | [a, b], _ => exact .inr (.inr (.inr (.inr (.inr (.inl ⟨a, b, rfl⟩)))))
            | [], h | [_], h | _ :: _ :: _ :: _, h => simp at h
          · split at h
            · rename_i e; subst e
              match r, h with
              | [a], _ => exact .inr (.inl ⟨a, rfl⟩)
              | [], h | _ :: _ :: _, h => simp at h
            · split at h
              · rename_i e; subst e
                match r, h with
                | [a, b, e], _ => exact .inr (.inr (.inr (.inr (.inr (.inr ⟨a, b, e, rfl⟩)))))
                | [], h | [_], h | [_, _], h | _ :: _ :: _ :: _ :: _, h => simp at h
              · split at h
                · rename_i e; subst e
                  match r, h with
                  | [a], _ => exact .inr (.inr (.inl ⟨a, rfl⟩))
                  | [], h | _ :: _ :: _, h => simp at h
                · cases h
end
section
variable {P : Program} {w : World} {K : PySem.W.Frag} {mg : Str → Option Value} {base : Heap} {σ : L2.St} {H : Hp}
theorem szw : szOf "set" = some 3 ∧ szOf "carry" = some 2 ∧ szOf "keep" = some 3 ∧ szOf "either" = some 3 ∧ szOf "again" = some 2 ∧ szOf "call" = some 4 ∧ szOf "end" = some 2 := by decide
theorem stm_sized {c m : Nat} {d : PyData} (h : sizedD d = false) : stmD c m d = false := by
  cases e : stmD c m d with
  | false => rfl
  | true =>
    exfalso
    unfold stmD at e
    split at e
    · split at e
      · rename_i h1; subst h1; simp [sizedD, szw] at h
      · split at e
        · rename_i h1; subst h1; simp [sizedD, szw] at h
        · split at e
          · rename_i h1; subst h1; simp [sizedD, szw] at h
          · cases e
    · split at e
      · rename_i h1; subst h1; simp [sizedD, szw] at h
      · split at e
        · rename_i h1; subst h1; simp [sizedD, szw] at h
        · split at e
          · rename_i h1; subst h1; simp [sizedD, szw] at h
          · cases e
    · split at e
      · rename_i h1; subst h1; simp [sizedD, szw] at h
      · cases e
    · cases e
theorem ev_spSized {te : TE} {E : XK} {v : V} {d : PyData} {ok : Str → Prop} (h : Ev te σ H v) (hd : Dp K H v d) (hw : wordOk ok d) : Ev (tCall (spSized K ok) [] E (tCons te tNil)) σ H (.bl (sizedD d)) :=
  ev_call (ea_cons h ea_nil) fun H1 e Q q _ => ⟨v, d, rfl, dp_ex e d v hd, hw, q⟩
theorem ev_spPair {te : TE} {E : XK} {v : V} {d : PyData} (h : Ev te σ H v) (hd : Dp K H v d) : Ev (tCall (spPair K) [] E (tCons te tNil)) σ H (.bl (pairD d)) :=
  ev_call (ea_cons h ea_nil) fun H1 e Q q _ => ⟨v, d, rfl, dp_ex e d v hd, q⟩
def spStm (K : PySem.W.Frag) (ok : Str → Prop) : Sp := fun vs H Q _ => ∃ (v : V) (d : PyData) (c m n : Nat), vs = [v, .int (c : Int), .int (m : Int)] ∧ Dp K H v d ∧ fit d n = true ∧ wordOk ok d ∧ ∀ H', Ex H H' → Q (.bl (stmD c m d)) H'
theorem ev_spStm {te t1 t2 : TE} {E : XK} {v : V} {d : PyData} {ok : Str → Prop} {c m n : Nat} (h : Ev te σ H v) (h1 : Ev t1 σ H (.int (c : Int))) (h2 : Ev t2 σ H (.int (m : Int))) (hd : Dp K H v d) (hf : fit d n = true) (hw : wordOk ok d) : Ev (tCall (spStm K ok) [] E (tCons te (tCons t1 (tCons t2 tNil)))) σ H (.bl (stmD c m d)) :=
  ev_call (ea_cons h (ea_cons h1 (ea_cons h2 ea_nil))) fun H1 e Q q _ => ⟨v, d, c, m, n, rfl, dp_ex e d v hd, hf, hw, q⟩
theorem ev_at {tl : TE} {a : Addr} {xs : List V} {j : Nat} {v : V} (h : Ev tl σ H (.ref a)) (hs : SqT K H a xs) (hx : xs[j]? = some v) : Ev (tOp (rIxT K) tl (tC (.int (j : Int)))) σ H v := ev_op h ev_c (rv_ixT hs (atI_nat hx))
theorem dp_tup {v : V} {ds : List PyData} (h : Dp K H v (.tuple ds)) : ∃ a xs, v = .ref a ∧ SqT K H a xs ∧ DpAll K H xs ds := by
  cases h with
  | tup s a => exact ⟨_, _, rfl, s, a⟩
theorem dpa1 {xs : List V} {d : PyData} {r : List PyData} (h : DpAll K H xs (d :: r)) : ∃ v vr, xs = v :: vr ∧ Dp K H v d ∧ DpAll K H vr r := by
  cases h with
  | cons a b => exact ⟨_, _, rfl, a, b⟩
theorem dpa0 {xs : List V} (h : DpAll K H xs []) : xs = [] := by cases h; rfl
theorem dp_str {v : V} {x : Str} (h : Dp K H v (.str x)) : v = .str x := by cases h; rfl
/-- the items of a statement of two, three or four -/
theorem items2 {v : V} {x : Str} {a : PyData} (h : Dp K H v (.tuple [.str x, a])) : ∃ t va, v = .ref t ∧ SqT K H t [.str x, va] ∧ Dp K H va a := by
  obtain ⟨t, xs, rfl, s, hx⟩ := dp_tup h
  obtain ⟨v0, r0, rfl, p0, q0⟩ := dpa1 hx
  obtain ⟨v1, r1, rfl, p1, q1⟩ := dpa1 q0
  rw [dpa0 q1, dp_str p0] at s
  exact ⟨t, v1, rfl, s, p1⟩
theorem items3 {v : V} {x : Str} {a b : PyData} (h : Dp K H v (.tuple [.str x, a, b])) : ∃ t va vb, v = .ref t ∧ SqT K H t [.str x, va, vb] ∧ Dp K H va a ∧ Dp K H vb b := by
  obtain ⟨t, xs, rfl, s, hx⟩ := dp_tup h
  obtain ⟨v0, r0, rfl, p0, q0⟩ := dpa1 hx
  obtain ⟨v1, r1, rfl, p1, q1⟩ := dpa1 q0
  obtain ⟨v2, r2, rfl, p2, q2⟩ := dpa1 q1
  rw [dpa0 q2, dp_str p0] at s
  exact ⟨t, v1, v2, rfl, s, p1, p2⟩
theorem items4 {v : V} {x : Str} {a b c : PyData} (h : Dp K H v (.tuple [.str x, a, b, c])) : ∃ t va vb vc, v = .ref t ∧ SqT K H t [.str x, va, vb, vc] ∧ Dp K H va a ∧ Dp K H vb b ∧ Dp K H vc c := by
  obtain ⟨t, xs, rfl, s, hx⟩ := dp_tup h
  obtain ⟨v0, r0, rfl, p0, q0⟩ := dpa1 hx
  obtain ⟨v1, r1, rfl, p1, q1⟩ := dpa1 q0
  obtain ⟨v2, r2, rfl, p2, q2⟩ := dpa1 q1
  obtain ⟨v3, r3, rfl, p3, q3⟩ := dpa1 q2
  rw [dpa0 q3, dp_str p0] at s
  exact ⟨t, v1, v2, v3, rfl, s, p1, p2, p3⟩
theorem fit_items {ds : List PyData} {n : Nat} (h : fit (.tuple ds) n = true) : ∃ m, ∀ d ∈ ds, fit d m = true := by
  obtain ⟨m, _, _, g⟩ := fit_tuple h
  exact ⟨m, fun d hd => fitAll_mem g hd⟩
/-- a chain of tests of the word: what the word is not is passed by -/
theorem q_word {D : Ends} {tr tz : TS} {i : Nat} {x y : Str} (hσ : σ[i]? = some (some (.str x))) (hne : decide (V.str x = V.str y) = false) (k : ∀ H1, Ex H H1 → tz D σ H1) : tSeq (tIfS (tTest (tOp rEq (tVar i) (tC (.str y)))) tr tNext) tz D σ H :=
  q_when (et_test (ev_op (ev_var hσ) ev_c (rv_eq rfl))) (fun h => by rw [hne] at h; cases h) fun _ H1 e => k H1 e
theorem q_word1 {D : Ends} {tr tz : TS} {i : Nat} {x : Str} (hσ : σ[i]? = some (some (.str x))) (k : ∀ H1, Ex H H1 → tr { D with nx := tz D } σ H1) : tSeq (tIfS (tTest (tOp rEq (tVar i) (tC (.str x)))) tr tNext) tz D σ H :=
  q_when (et_test (ev_op (ev_var hσ) ev_c (rv_eq rfl))) (fun _ H1 e => k H1 e) fun h => by rw [decide_eq_true rfl] at h; cases h
theorem ok_is_statement {f : Addr} {fd : FuncData} {k : Nat} {ok : Str → Prop} (F : Fun K "is_statement" "is_statement" sis_statement f fd) (z_isinstance : mg "isinstance" = none) (z_list : mg "list" = none) (Cis_sized : Cal P w K mg base 1 "is_sized" (spSized K ok) []) (Cis_index : Cal P w K mg base 3 "is_index" (spIx K) [])
    (Cis_bit : Cal P w K mg base 3 "is_bit" (spBit K) []) (Cis_row : Cal P w K mg base 3 "is_row" (spRw K) []) (Cis_cell_list : Cal P w K mg base 4 "is_cell_list" (spCl K) []) (Cis_block_pair : Cal P w K mg base 1 "is_block_pair" (spPair K) []) (hk : 4 ≤ k) :
    FnOk P w K mg base CX0 (k + 1) f fd ["value", "cells", "procedures"] (spStm K ok) := by
  have sc := scis_statement
  refine F.ok sc (fun vs H Q E h => ?_) (fun cdv A outer s H vs Q E hr h => ?_)
  · obtain ⟨v, d, c, m, n, rfl, _⟩ := h
    rfl
  · obtain ⟨v, d, c, m, n, rfl, hd, hf, hw, q⟩ := h
    refine ⟨_, (pss_cons (ps_if (pt_not (pt_val (pe_c Cis_sized hr (by omega) (by rfl) (pa_cons (pv 0) pa_nil))))
      (pss_one (ps_ret pe_bl))
      pss_nil)
      (pss_cons (ps_set (i := 3) sc.nd rfl (by first | exact Or.inl rfl | exact Or.inr rfl) (pe_ix ix_tup (pv 0) pe_int (fun _ _ => rfl)))
      (pss_cons (ps_if (pt_cmpR op_eq (pv 3) pe_str (nomark _))
      (pss_one (ps_ret (pe_and (pe_c Cis_index hr (by omega) (by rfl) (pa_cons (pe_ix ix_tup (pv 0) pe_int (fun _ _ => rfl)) (pa_cons (pv 1) pa_nil))) (pe_one (pe_c Cis_row hr (by omega) (by rfl) (pa_cons (pe_ix ix_tup (pv 0) pe_int (fun _ _ => rfl)) (pa_cons (pv 1) pa_nil)))))))
      pss_nil)
      (pss_cons (ps_if (pt_cmpR op_eq (pv 3) pe_str (nomark _))
      (pss_one (ps_ret (pe_c Cis_row hr (by omega) (by rfl) (pa_cons (pe_ix ix_tup (pv 0) pe_int (fun _ _ => rfl)) (pa_cons (pv 1) pa_nil)))))
      pss_nil)
      (pss_cons (ps_if (pt_cmpR op_eq (pv 3) pe_str (nomark _))
      (pss_one (ps_ret (pe_and (pe_c Cis_cell_list hr (by omega) (by rfl) (pa_cons (pe_ix ix_tup (pv 0) pe_int (fun _ _ => rfl)) (pa_cons (pv 1) pa_nil))) (pe_one (pe_callB call_isi (by rfl) z_isinstance (by decide +kernel) (pa_cons (pe_ix ix_tup (pv 0) pe_int (fun _ _ => rfl)) (pa_cons (pe_bltn (v := .ty "list") (by rfl) z_list (by decide +kernel) rfl) pa_nil)))))))
      pss_nil)
      (pss_cons (ps_if (pt_cmpR op_eq (pv 3) pe_str (nomark _))
      (pss_one (ps_ret (pe_and (pe_callB call_isi (by rfl) z_isinstance (by decide +kernel) (pa_cons (pe_ix ix_tup (pv 0) pe_int (fun _ _ => rfl)) (pa_cons (pe_bltn (v := .ty "list") (by rfl) z_list (by decide +kernel) rfl) pa_nil))) (pe_one (pe_callB call_isi (by rfl) z_isinstance (by decide +kernel) (pa_cons (pe_ix ix_tup (pv 0) pe_int (fun _ _ => rfl)) (pa_cons (pe_bltn (v := .ty "list") (by rfl) z_list (by decide +kernel) rfl) pa_nil)))))))
      pss_nil)
      (pss_cons (ps_if (pt_cmpR op_eq (pv 3) pe_str (nomark _))
      (pss_one (ps_ret (pe_callB call_isi (by rfl) z_isinstance (by decide +kernel) (pa_cons (pe_ix ix_tup (pv 0) pe_int (fun _ _ => rfl)) (pa_cons (pe_bltn (v := .ty "list") (by rfl) z_list (by decide +kernel) rfl) pa_nil)))))
      pss_nil)
      (pss_cons (ps_if (pt_cmpR op_eq (pv 3) pe_str (nomark _))
      (pss_one (ps_ret (pe_and (pe_c Cis_index hr (by omega) (by rfl) (pa_cons (pe_ix ix_tup (pv 0) pe_int (fun _ _ => rfl)) (pa_cons (pv 2) pa_nil))) (pe_and (pe_c Cis_row hr (by omega) (by rfl) (pa_cons (pe_ix ix_tup (pv 0) pe_int (fun _ _ => rfl)) (pa_cons (pv 1) pa_nil))) (pe_one (pe_c Cis_block_pair hr (by omega) (by rfl) (pa_cons (pe_ix ix_tup (pv 0) pe_int (fun _ _ => rfl)) pa_nil)))))))
      pss_nil)
      (pss_one (ps_ret (pe_c Cis_bit hr (by omega) (by rfl) (pa_cons (pe_ix ix_tup (pv 0) pe_int (fun _ _ => rfl)) pa_nil)))))))))))), ?_⟩
    refine q_when (et_not (et_B (ev_spSized (ev_var rfl) hd hw))) (fun hb H1 e1 => ?_) (fun hb H1 e1 => ?_)
    · rw [Bool.not_eq_true'] at hb
      rw [stm_sized hb] at q
      exact s_ret ev_c fun H2 e2 => q H2 (e1.trans e2)
    rw [Bool.not_eq_false'] at hb
    have hd1 := dp_ex e1 _ _ hd
    rcases sized_cases hb with ⟨a, rfl⟩ | ⟨a, rfl⟩ | ⟨a, rfl⟩ | ⟨a, b, rfl⟩ | ⟨a, b, rfl⟩ | ⟨a, b, rfl⟩ | ⟨a, b, e, rfl⟩
    · -- carry
      obtain ⟨t, va, rfl, s, pa⟩ := items2 hd1
      obtain ⟨n', fa⟩ := fit_items hf
      refine q_asg (ev_at (j := 0) (ev_var rfl) s rfl) fun H2 e2 => ?_
      refine q_word rfl (by decide) fun H3 e3 => ?_
      refine q_word1 rfl fun H4 e4 => ?_
      have e24 := (e2.trans e3).trans e4
      exact s_ret (ev_spRw (ev_at (j := 1) (ev_var rfl) (ex_t e24 s) rfl) (ev_var rfl) (dp_ex e24 _ _ pa) (fa a (by simp))) fun H5 e5 => q H5 (e1.trans (e24.trans e5))
    · -- again
      obtain ⟨t, va, rfl, s, pa⟩ := items2 hd1
      refine q_asg (ev_at (j := 0) (ev_var rfl) s rfl) fun H2 e2 => ?_
      refine q_word rfl (by decide) fun H3 e3 => ?_
      refine q_word rfl (by decide) fun H4 e4 => ?_
      refine q_word rfl (by decide) fun H5 e5 => ?_
      refine q_word rfl (by decide) fun H6 e6 => ?_
      refine q_word1 rfl fun H7 e7 => ?_
      have e27 := ((((e2.trans e3).trans e4).trans e5).trans e6).trans e7
      refine s_ret (ev_isi (dp_ex e27 _ _ pa) (ev_at (j := 1) (ev_var rfl) (ex_t e27 s) rfl) (kitB_isa a).2.2.2.1) fun H8 e8 => ?_
      rw [← listD_isa]
      exact q H8 (e1.trans (e27.trans e8))
    · -- end
      obtain ⟨t, va, rfl, s, pa⟩ := items2 hd1
      refine q_asg (ev_at (j := 0) (ev_var rfl) s rfl) fun H2 e2 => ?_
      refine q_word rfl (by decide) fun H3 e3 => ?_
      refine q_word rfl (by decide) fun H4 e4 => ?_
      refine q_word rfl (by decide) fun H5 e5 => ?_
      refine q_word rfl (by decide) fun H6 e6 => ?_
      refine q_word rfl (by decide) fun H7 e7 => ?_
      refine q_word rfl (by decide) fun H8 e8 => ?_
      have e28 := (((((e2.trans e3).trans e4).trans e5).trans e6).trans e7).trans e8
      exact s_ret (ev_spBit (ev_at (j := 1) (ev_var rfl) (ex_t e28 s) rfl) (dp_ex e28 _ _ pa)) fun H9 e9 => q H9 (e1.trans (e28.trans e9))
    · -- set
      obtain ⟨t, va, vb, rfl, s, pa, pb⟩ := items3 hd1
      obtain ⟨n', fa⟩ := fit_items hf
      refine q_asg (ev_at (j := 0) (ev_var rfl) s rfl) fun H2 e2 => ?_
      refine q_word1 rfl fun H3 e3 => ?_
      have e23 := e2.trans e3
      exact s_ret (ev_andV (ev_spIx (ev_at (j := 1) (ev_var rfl) (ex_t e23 s) rfl) (ev_var rfl) (dp_ex e23 _ _ pa)) fun _ => ev_spRw (ev_at (j := 2) (ev_var rfl) (ex_t e23 s) rfl) (ev_var rfl) (dp_ex e23 _ _ pb) (fa b (by simp))) fun H4 e4 => q H4 (e1.trans (e23.trans e4))
    · -- keep
      obtain ⟨t, va, vb, rfl, s, pa, pb⟩ := items3 hd1
      obtain ⟨n', fa⟩ := fit_items hf
      refine q_asg (ev_at (j := 0) (ev_var rfl) s rfl) fun H2 e2 => ?_
      refine q_word rfl (by decide) fun H3 e3 => ?_
      refine q_word rfl (by decide) fun H4 e4 => ?_
      refine q_word1 rfl fun H5 e5 => ?_
      have e25 := ((e2.trans e3).trans e4).trans e5
      refine s_ret (ev_andV (ev_spCl (ev_at (j := 1) (ev_var rfl) (ex_t e25 s) rfl) (ev_var rfl) (dp_ex e25 _ _ pa) (fa a (by simp))) fun _ => ev_isi (dp_ex e25 _ _ pb) (ev_at (j := 2) (ev_var rfl) (ex_t e25 s) rfl) (kitB_isa b).2.2.2.1) fun H6 e6 => ?_
      rw [← listD_isa]
      exact q H6 (e1.trans (e25.trans e6))
    · -- either
      obtain ⟨t, va, vb, rfl, s, pa, pb⟩ := items3 hd1
      refine q_asg (ev_at (j := 0) (ev_var rfl) s rfl) fun H2 e2 => ?_
      refine q_word rfl (by decide) fun H3 e3 => ?_
      refine q_word rfl (by decide) fun H4 e4 => ?_
      refine q_word rfl (by decide) fun H5 e5 => ?_
      refine q_word1 rfl fun H6 e6 => ?_
      have e26 := (((e2.trans e3).trans e4).trans e5).trans e6
      refine s_ret (ev_andV (ev_isi (dp_ex e26 _ _ pa) (ev_at (j := 1) (ev_var rfl) (ex_t e26 s) rfl) (kitB_isa a).2.2.2.1) fun _ => ev_isi (dp_ex e26 _ _ pb) (ev_at (j := 2) (ev_var rfl) (ex_t e26 s) rfl) (kitB_isa b).2.2.2.1) fun H7 e7 => ?_
      rw [← listD_isa, ← listD_isa]
      exact q H7 (e1.trans (e26.trans e7))
    · -- call
      obtain ⟨t, va, vb, ve, rfl, s, pa, pb, pe⟩ := items4 hd1
      obtain ⟨n', fa⟩ := fit_items hf
      refine q_asg (ev_at (j := 0) (ev_var rfl) s rfl) fun H2 e2 => ?_
      refine q_word rfl (by decide) fun H3 e3 => ?_
      refine q_word rfl (by decide) fun H4 e4 => ?_
      refine q_word rfl (by decide) fun H5 e5 => ?_
      refine q_word rfl (by decide) fun H6 e6 => ?_
      refine q_word rfl (by decide) fun H7 e7 => ?_
      refine q_word1 rfl fun H8 e8 => ?_
      have e28 := (((((e2.trans e3).trans e4).trans e5).trans e6).trans e7).trans e8
      exact s_ret (ev_andV (ev_spIx (ev_at (j := 1) (ev_var rfl) (ex_t e28 s) rfl) (ev_var rfl) (dp_ex e28 _ _ pa)) fun _ => ev_andV (ev_spRw (ev_at (j := 2) (ev_var rfl) (ex_t e28 s) rfl) (ev_var rfl) (dp_ex e28 _ _ pb) (fa b (by simp))) fun _ => ev_spPair (ev_at (j := 3) (ev_var rfl) (ex_t e28 s) rfl) (dp_ex e28 _ _ pe)) fun H9 e9 => q H9 (e1.trans (e28.trans e9))
end
abbrev sentries : Stmt := topS 26
theorem scentries : FnScope ["block", "path", "index"] ["block", "path"] (defScope sentries) := ⟨rfl, rfl, rfl, by decide +kernel, rfl, by decide +kernel, by decide +kernel⟩
abbrev sfits : Stmt := topS 27
theorem scfits : FnScope ["value", "path", "cells", "procedures", "level"] ["value", "path", "cells", "procedures"] (defScope sfits) := ⟨rfl, rfl, rfl, by decide +kernel, rfl, by decide +kernel, by decide +kernel⟩
abbrev sfirst_fault : Stmt := topS 28
theorem scfirst_fault : FnScope ["body", "cells", "procedures", "waiting", "many", "path", "value", "blocks", "number"] ["body", "cells", "procedures"] (defScope sfirst_fault) := ⟨rfl, rfl, rfl, by decide +kernel, rfl, by decide +kernel, by decide +kernel⟩
open StX (tStar pa_star)
section
variable {X : Cx}
theorem pa_starK {K : PySem.W.Frag} {e : Expr} {es : List Expr} {te : TE} {t : TA} {p : Pos} (hK : X.K = K) (he : PE X e te) (hr : PA X es t) (hs : starEach (.Starred e p :: es) X.env = (true, eval e X.env) :: starEach es X.env := by rfl) : PA X (.Starred e p :: es) (tStar K te t) := by
  subst hK
  exact pa_star he hr hs
end
section
variable {P : Program} {w : World} {K : PySem.W.Frag} {mg : Str → Option Value} {base : Heap} {σ : L2.St} {H H' : Hp}
/-- the blocks of a statement, new list -/
def spBlocks (K : PySem.W.Frag) : Sp := fun vs H Q _ => ∃ (v : V) (d : PyData) (c m : Nat) (H0 : Hp), vs = [v] ∧ Ex H0 H ∧ Dp K H0 v d ∧ stmD c m d = true ∧ ∀ B bs H', H B = none → Ex H H' → H' B = some (.lst bs) → DpAll K H0 bs (blocksD d) → Q (.ref B) H'
theorem stm_yes {c m : Nat} {d : PyData} (h : stmD c m d = true) : sizedD d = true := by
  cases e : sizedD d with
  | true => rfl
  | false => rw [stm_sized e] at h; cases h
theorem isa_listD {d : PyData} (h : listD d = true) : isa d "list" = true := by rw [← listD_isa]; exact h
theorem pair_t {e : PyData} (h : pairD e = true) : ∃ x y, e = .list [x, y] := by
  match e, h with
  | .list [x, y], _ => exact ⟨x, y, rfl⟩
theorem dp_lst {v : V} {ds : List PyData} (h : Dp K H v (.list ds)) : ∃ a xs, v = .ref a ∧ SqL K H a xs ∧ DpAll K H xs ds := by
  cases h with
  | lst s a => exact ⟨_, _, rfl, s, a⟩
theorem ok_blocks_of {f : Addr} {fd : FuncData} {k : Nat} (F : Fun K "blocks_of" "blocks_of" sblocks_of f fd) : FnOk P w K mg base CX0 (k + 1) f fd ["statement"] (spBlocks K) := by
  have sc := scblocks_of
  refine F.ok sc (fun vs H Q E h => ?_) (fun cdv A outer s H vs Q E hr h => ?_)
  · obtain ⟨v, d, c, m, H0, rfl, _⟩ := h
    rfl
  · obtain ⟨v, d, c, m, H0, rfl, e0, hd, hst, q⟩ := h
    refine ⟨_, (pss_cons (ps_set (i := 1) sc.nd rfl (by first | exact Or.inl rfl | exact Or.inr rfl) (pe_ix ix_tup (pv 0) pe_int (fun _ _ => rfl)))
      (pss_cons (ps_if (pt_cmpR op_eq (pv 1) pe_str (nomark _))
      (pss_one (ps_ret (pe_lst (pa_cons (pe_ix ix_tup (pv 0) pe_int (fun _ _ => rfl)) pa_nil))))
      pss_nil)
      (pss_cons (ps_if (pt_cmpR op_eq (pv 1) pe_str (nomark _))
      (pss_one (ps_ret (pe_lst (pa_cons (pe_ix ix_tup (pv 0) pe_int (fun _ _ => rfl)) (pa_cons (pe_ix ix_tup (pv 0) pe_int (fun _ _ => rfl)) pa_nil)))))
      pss_nil)
      (pss_cons (ps_if (pt_cmpR op_eq (pv 1) pe_str (nomark _))
      (pss_one (ps_ret (pe_lst (pa_cons (pe_ix ix_tup (pv 0) pe_int (fun _ _ => rfl)) pa_nil))))
      pss_nil)
      (pss_cons (ps_if (pt_cmpR op_eq (pv 1) pe_str (nomark _))
      (pss_one (ps_ret (pe_lst (pa_cons (pe_ix ix_list (pe_ix ix_tup (pv 0) pe_int (fun _ _ => rfl)) pe_int (fun _ _ => rfl)) (pa_cons (pe_ix ix_list (pe_ix ix_tup (pv 0) pe_int (fun _ _ => rfl)) pe_int (fun _ _ => rfl)) pa_nil)))))
      pss_nil)
      (pss_one (ps_ret (pe_lst pa_nil)))))))), ?_⟩
    rcases sized_cases (stm_yes hst) with ⟨a, rfl⟩ | ⟨a, rfl⟩ | ⟨a, rfl⟩ | ⟨a, b, rfl⟩ | ⟨a, b, rfl⟩ | ⟨a, b, rfl⟩ | ⟨a, b, e, rfl⟩
    · obtain ⟨t, va, rfl, s, pa⟩ := items2 hd
      replace s := ex_t e0 s
      refine q_asg (ev_at (j := 0) (ev_var rfl) s rfl) fun H2 e2 => ?_
      refine q_word rfl (by decide) fun H3 e3 => ?_
      refine q_word rfl (by decide) fun H4 e4 => ?_
      refine q_word rfl (by decide) fun H5 e5 => ?_
      refine q_word rfl (by decide) fun H6 e6 => ?_
      have e26 := (((e2.trans e3).trans e4).trans e5).trans e6
      exact s_retL (el_lst ea_nil (by decide)) fun B H7 nB e7 hB => q B [] H7 (new_ex e26 nB) (e26.trans e7) hB .nil
    · obtain ⟨t, va, rfl, s, pa⟩ := items2 hd
      replace s := ex_t e0 s
      refine q_asg (ev_at (j := 0) (ev_var rfl) s rfl) fun H2 e2 => ?_
      refine q_word rfl (by decide) fun H3 e3 => ?_
      refine q_word rfl (by decide) fun H4 e4 => ?_
      refine q_word1 rfl fun H5 e5 => ?_
      have e25 := ((e2.trans e3).trans e4).trans e5
      exact s_retL (el_lst (ea_cons (ev_at (j := 1) (ev_var rfl) (ex_t e25 s) rfl) ea_nil) (by show 1 ≤ 100000; decide)) fun B H7 nB e7 hB => q B [va] H7 (new_ex e25 nB) (e25.trans e7) hB (.cons pa .nil)
    · obtain ⟨t, va, rfl, s, pa⟩ := items2 hd
      replace s := ex_t e0 s
      refine q_asg (ev_at (j := 0) (ev_var rfl) s rfl) fun H2 e2 => ?_
      refine q_word rfl (by decide) fun H3 e3 => ?_
      refine q_word rfl (by decide) fun H4 e4 => ?_
      refine q_word rfl (by decide) fun H5 e5 => ?_
      refine q_word rfl (by decide) fun H6 e6 => ?_
      have e26 := (((e2.trans e3).trans e4).trans e5).trans e6
      exact s_retL (el_lst ea_nil (by decide)) fun B H7 nB e7 hB => q B [] H7 (new_ex e26 nB) (e26.trans e7) hB .nil
    · obtain ⟨t, va, vb, rfl, s, pa, pb⟩ := items3 hd
      replace s := ex_t e0 s
      refine q_asg (ev_at (j := 0) (ev_var rfl) s rfl) fun H2 e2 => ?_
      refine q_word rfl (by decide) fun H3 e3 => ?_
      refine q_word rfl (by decide) fun H4 e4 => ?_
      refine q_word rfl (by decide) fun H5 e5 => ?_
      refine q_word rfl (by decide) fun H6 e6 => ?_
      have e26 := (((e2.trans e3).trans e4).trans e5).trans e6
      exact s_retL (el_lst ea_nil (by decide)) fun B H7 nB e7 hB => q B [] H7 (new_ex e26 nB) (e26.trans e7) hB .nil
    · obtain ⟨t, va, vb, rfl, s, pa, pb⟩ := items3 hd
      replace s := ex_t e0 s
      refine q_asg (ev_at (j := 0) (ev_var rfl) s rfl) fun H2 e2 => ?_
      refine q_word1 rfl fun H3 e3 => ?_
      have e23 := e2.trans e3
      exact s_retL (el_lst (ea_cons (ev_at (j := 2) (ev_var rfl) (ex_t e23 s) rfl) ea_nil) (by show 1 ≤ 100000; decide)) fun B H7 nB e7 hB => q B [vb] H7 (new_ex e23 nB) (e23.trans e7) hB (.cons pb .nil)
    · obtain ⟨t, va, vb, rfl, s, pa, pb⟩ := items3 hd
      replace s := ex_t e0 s
      refine q_asg (ev_at (j := 0) (ev_var rfl) s rfl) fun H2 e2 => ?_
      refine q_word rfl (by decide) fun H3 e3 => ?_
      refine q_word1 rfl fun H4 e4 => ?_
      have e24 := (e2.trans e3).trans e4
      exact s_retL (el_lst (ea_cons (ev_at (j := 1) (ev_var rfl) (ex_t e24 s) rfl) (ea_cons (ev_at (j := 2) (ev_var rfl) (ex_t e24 s) rfl) ea_nil)) (by show 2 ≤ 100000; decide)) fun B H7 nB e7 hB => q B [va, vb] H7 (new_ex e24 nB) (e24.trans e7) hB (.cons pa (.cons pb .nil))
    · obtain ⟨t, va, vb, ve, rfl, s, pa, pb, pe⟩ := items4 hd
      replace s := ex_t e0 s
      have hp : pairD e = true := by
        have : (btw 0 ((m : Int) - 1) a && (rowD c b && pairD e)) = true := hst
        rw [Bool.and_eq_true, Bool.and_eq_true] at this
        exact this.2.2
      obtain ⟨x, y, rfl⟩ := pair_t hp
      obtain ⟨L, xs, rfl, hs, hx⟩ := dp_lst pe
      obtain ⟨vx, r1, rfl, px, q1⟩ := dpa1 hx
      obtain ⟨vy, r2, rfl, py, q2⟩ := dpa1 q1
      rw [dpa0 q2] at hs
      replace hs := ex_l e0 hs
      refine q_asg (ev_at (j := 0) (ev_var rfl) s rfl) fun H2 e2 => ?_
      refine q_word rfl (by decide) fun H3 e3 => ?_
      refine q_word rfl (by decide) fun H4 e4 => ?_
      refine q_word rfl (by decide) fun H5 e5 => ?_
      refine q_word1 rfl fun H6 e6 => ?_
      have e26 := (((e2.trans e3).trans e4).trans e5).trans e6
      have sL := ex_l e26 hs
      exact s_retL (el_lst (ea_cons (ev_op (ev_at (j := 3) (ev_var rfl) (ex_t e26 s) rfl) ev_c (rv_ixL sL (atI_nat (j := 0) rfl))) (ea_cons (ev_op (ev_at (j := 3) (ev_var rfl) (ex_t e26 s) rfl) ev_c (rv_ixL sL (atI_nat (j := 1) rfl))) ea_nil)) (by show 2 ≤ 100000; decide)) fun B H7 nB e7 hB => q B [vx, vy] H7 (new_ex e26 nB) (e26.trans e7) hB (.cons px (.cons py .nil))
end
section
variable {P : Program} {w : World} {K : PySem.W.Frag} {mg : Str → Option Value} {base : Heap} {σ : L2.St} {H H' : Hp}
/-- x is a tuple of a path and a value -/
def EntT (K : PySem.W.Frag) (H : Hp) (x : V) (e : List Int × V) : Prop := ∃ t p, x = .ref t ∧ SqT K H t [.ref p, e.2] ∧ SqT K H p (e.1.map V.int)
theorem sqT_updL {a D : Addr} {xs l l' : List V} (h : SqT K H a xs) (hD : H D = some (.lst l)) : SqT K (upd H D (.lst l')) a xs := by
  rcases h with (h | ⟨o, h⟩) | h
  · exact .inl (.inl (by rw [upd_ne (ne_of h hD (by intro z; cases z))]; exact h))
  · exact .inl (.inr ⟨o, by rw [upd_ne (ne_of h hD (by intro z; cases z))]; exact h⟩)
  · exact .inr h
theorem entT_updL {D : Addr} {l l' : List V} {x : V} {e : List Int × V} (h : EntT K H x e) (hD : H D = some (.lst l)) : EntT K (upd H D (.lst l')) x e := by
  obtain ⟨t, p, rfl, h1, h2⟩ := h
  exact ⟨t, p, rfl, sqT_updL h1 hD, sqT_updL h2 hD⟩
theorem entT_ex {x : V} {e : List Int × V} (h : EntT K H x e) (k : Ex H H') : EntT K H' x e := by
  obtain ⟨t, p, rfl, h1, h2⟩ := h
  exact ⟨t, p, rfl, ex_t k h1, ex_t k h2⟩
abbrev Ents (K : PySem.W.Frag) (H : Hp) : List V → List (List Int × V) → Prop := Paired (EntT K H)
theorem ents_updL {D : Addr} {l l' : List V} {xs : List V} {es : List (List Int × V)} (h : Ents K H xs es) (hD : H D = some (.lst l)) : Ents K (upd H D (.lst l')) xs es := Paired.mapP h fun _ _ x => entT_updL x hD
theorem ents_ex {xs : List V} {es : List (List Int × V)} (h : Ents K H xs es) (k : Ex H H') : Ents K H' xs es := Paired.mapP h fun _ _ x => entT_ex x k
theorem paired_app {α β : Type} {F : α → β → Prop} : ∀ {a c : List α} {b d : List β}, Paired F a b → Paired F c d → Paired F (a ++ c) (b ++ d)
  | _, _, _, _, .nil, h => h
  | _, _, _, _, .cons x y, h => .cons x (paired_app y h)
theorem paired_len {α β : Type} {F : α → β → Prop} : ∀ {a : List α} {b : List β}, Paired F a b → a.length = b.length
  | _, _, .nil => rfl
  | _, _, .cons _ y => by rw [List.length_cons, List.length_cons, paired_len y]
/-- the entries of a block, the last first -/
def entsV (vs : List V) (path : List Int) : List (List Int × V) := (List.range vs.length).map fun i => (path ++ [((vs.length - 1 - i : Nat) : Int)], vs.getD (vs.length - 1 - i) .non)
def spEntries (K : PySem.W.Frag) : Sp := fun vs H Q _ => ∃ (b p : Addr) (xs : List V) (path : List Int), vs = [.ref b, .ref p] ∧ SqL K H b xs ∧ SqT K H p (path.map V.int) ∧ xs.length ≤ 10000 ∧ path.length ≤ 1000 ∧
  ∀ D ys H', H D = none → Ex H H' → H' D = some (.lst ys) → Ents K H' ys (entsV xs path) → Q (.ref D) H'
theorem ok_entries {f : Addr} {fd : FuncData} {k : Nat} (F : Fun K "entries" "entries" sentries f fd) (z_range : mg "range" = none) (z_reversed : mg "reversed" = none) (z_len : mg "len" = none) : FnOk P w K mg base CX0 (k + 1) f fd ["block", "path"] (spEntries K) := by
  have sc := scentries
  refine F.ok sc (fun vs H Q E h => ?_) (fun cdv A outer s H vs Q E hr h => ?_)
  · obtain ⟨b, p, xs, path, rfl, _⟩ := h
    rfl
  · obtain ⟨b, p, xs, path, rfl, hb, hp, hl, hpl, q⟩ := h
    refine ⟨_, (pss_one (ps_ret (pe_lc (own := [("index", 2)]) (by rfl) sc.nd (pi_revR (by rfl) z_reversed (prg_1 (by rfl) z_range (pe_callB call_len_seq (by rfl) z_len (by decide +kernel) (pa_cons (pv 0) pa_nil)))) (blkOk_by (own := [("index", 2)]) (N := ["block", "path", "index"]) (sc := defScope sentries) (by decide +kernel)) (fun _ _ _ _ _ => (pg_name (i := 2) sc.nd rfl (by first | exact Or.inl rfl | exact Or.inr rfl))) (fun _ _ _ _ _ => pts_nil) (fun _ _ _ _ _ => (pe_tup (pa_cons (pe_tup (pa_starK (K := K) rfl (pv 1) (pa_cons (pv 2) pa_nil))) (pa_cons (pe_ix (ix_list : IxR _ (rIxL K)) (pv 0) (pv 2) (fun _ _ => rfl)) pa_nil))))))), ?_⟩
    refine s_retR ?_
    refine ⟨.ref b, rfl, b, xs, rfl, .inl hb, (xs.length : Int), rfl, by omega, by omega, by omega, by omega, fun D nD => ?_⟩
    have hn : ((xs.length : Int) - 0).toNat = xs.length := by omega
    rw [hn]
    have wk := (walk_rangeC (lo := (0 : Int) + ((xs.length : Nat) : Int) - 1) (c := -1) (n := xs.length)).mono (G' := fun _ => True) (Y' := fun i H x H' => H' = H ∧ x = .int ((xs.length - 1 - i : Nat) : Int)) (fun _ _ => trivial) (fun i H x H' hi _ y => ⟨y.1, by rw [y.2]; exact congrArg V.int (by omega)⟩)
    refine lc_it wk (fun i H' => ∃ ys, Ex H H' ∧ H' D = some (.lst ys) ∧ Ents K H' ys ((entsV xs path).take i)) ⟨[], Ex.new nD, upd_same, .nil⟩ (fun _ _ _ _ => trivial) (fun i x H' H'' hi hP y => ?_) (fun H' hP => ?_)
    · obtain ⟨ys, e, hD, he⟩ := hP
      obtain ⟨rfl, rfl⟩ := y
      have hj : xs.length - 1 - i < xs.length := by omega
      show wipe ((wipe _ _).set 2 (some (.int ((xs.length - 1 - i : Nat) : Int)))) _ = wipe _ _ ∧ _
      refine ⟨rfl, .ref p, rfl, p, path.map V.int, rfl, .inl (ex_t e hp), .int ((xs.length - 1 - i : Nat) : Int), rfl, ?_, fun T nT => ?_⟩
      · have := small1000 (n := 1000) (Nat.le_refl _)
        have h2 := sz_of (n := (path.map V.int ++ [V.int ((xs.length - 1 - i : Nat) : Int)]).length) (by rw [List.length_append, List.length_map, List.length_singleton]; omega)
        exact h2
      have eT := Ex.new (o := .tup (path.map V.int ++ [V.int ((xs.length - 1 - i : Nat) : Int)])) nT
      refine ⟨.ref b, rfl, .int ((xs.length - 1 - i : Nat) : Int), rfl, b, xs, _, xs.getD (xs.length - 1 - i) .non, rfl, rfl, ex_l (e.trans eT) hb, atI_nat (by rw [List.getElem?_eq_getElem hj, List.getD_eq_getElem?_getD, List.getElem?_eq_getElem hj]; rfl), by show 2 ≤ sizeLine; decide, fun U nU => ?_⟩
      have eU := Ex.new (o := .tup [.ref T, xs.getD (xs.length - 1 - i) .non]) nU
      have e2 := (e.trans eT).trans eU
      have lys := paired_len he
      refine ⟨ys, eU _ _ (eT _ _ hD), ?_, ys ++ [.ref U], e2.mut nD, upd_same, ?_⟩
      · rw [lys, List.length_take]; exact sz_lt (by rw [entsV, List.length_map, List.length_range]; omega)
      · rw [List.take_add_one, show (entsV xs path)[i]? = some (path ++ [((xs.length - 1 - i : Nat) : Int)], xs.getD (xs.length - 1 - i) .non) by rw [entsV, List.getElem?_map, List.getElem?_range hi]; rfl]
        refine paired_app (ents_updL (ents_ex he (eT.trans eU)) (eU _ _ (eT _ _ hD))) (.cons ?_ .nil)
        refine entT_updL (l := ys) ⟨U, T, rfl, st_of upd_same, st_of (eU _ _ (by rw [upd_same, List.map_append]; rfl))⟩ (eU _ _ (eT _ _ hD))
    · obtain ⟨ys, e, hD, he⟩ := hP
      rw [List.take_of_length_le (by rw [entsV, List.length_map, List.length_range]; omega)] at he
      exact q D ys H' nD e hD he
end
/-! ### reading a body with a stack -/
def lastI (p : List Int) : Int := p.getD (p.length - 1) 0
def fitsD (c m : Nat) (p : List Int) (d : PyData) : Bool := !(decide (8 ≤ lastI p) || !stmD c m d) && (decide (p.length / 2 < 3) || (blocksD d).isEmpty)
def elems : PyData → List PyData
  | .list ds => ds
  | _ => []
/-- the items of a block in order, with their paths -/
def itemsD (p : List Int) (ds : List PyData) : List (List Int × PyData) := (List.range ds.length).map fun (i : Nat) => (p ++ [(i : Int)], ds.getD i .none)
/-- the blocks from the k-th on -/
def flatD (p : List Int) : Nat → List PyData → List (List Int × PyData)
  | _, [] => []
  | k, b :: r => itemsD (p ++ [(k : Int)]) (elems b) ++ flatD p (k + 1) r
def ffD (c m : Nat) : Nat → List (List Int × PyData) → Nat → Option (List Int)
  | 0, _, _ => none
  | _ + 1, [], _ => none
  | f + 1, (p, d) :: st, many => if (decide (12 < many + 1) || !fitsD c m p d) = true then some p else ffD c m f (flatD p 0 (blocksD d) ++ st) (many + 1)
def firstD (c m : Nat) (ds : List PyData) : Option (List Int) := ffD c m 13 (itemsD [] ds) 0
mutual
/-- every tuple's first word is known -/
def allW (ok : Str → Prop) : PyData → Prop
  | .list xs => allWs ok xs
  | .tuple xs => wordOk ok (.tuple xs) ∧ allWs ok xs
  | _ => True
def allWs (ok : Str → Prop) : List PyData → Prop
  | [] => True
  | x :: xs => allW ok x ∧ allWs ok xs
end
theorem allWs_mem {ok : Str → Prop} : ∀ {xs : List PyData} {x : PyData}, allWs ok xs → x ∈ xs → allW ok x
  | y :: r, x, h, hm => by
    rw [allWs] at h
    rcases List.mem_cons.mp hm with rfl | hm
    · exact h.1
    · exact allWs_mem h.2 hm
theorem allW_word {ok : Str → Prop} {d : PyData} (h : allW ok d) : wordOk ok d := by
  cases d with
  | tuple xs => rw [allW] at h; exact h.1
  | _ => trivial
/-- a statement's blocks are lists, and what stands in them is as good -/
theorem blocks_good {c m : Nat} {d : PyData} {ok : Str → Prop} (h : stmD c m d = true) (hf : ∃ n, fit d n = true) (hw : allW ok d) : ∀ b ∈ blocksD d, ∃ ds, b = .list ds ∧ ds.length ≤ 10000 ∧ (∃ n, ∀ e ∈ ds, fit e n = true) ∧ ∀ e ∈ ds, allW ok e := by
  obtain ⟨n, hf⟩ := hf
  have key : ∀ b : PyData, listD b = true → (∃ n, fit b n = true) → allW ok b → ∃ ds, b = .list ds ∧ ds.length ≤ 10000 ∧ (∃ n, ∀ e ∈ ds, fit e n = true) ∧ ∀ e ∈ ds, allW ok e := fun b hb hfb hwb => by
    obtain ⟨n, hfb⟩ := hfb
    cases b with
    | list ds =>
      obtain ⟨m, _, hl, hg⟩ := fit_list hfb
      rw [allW] at hwb
      exact ⟨ds, rfl, hl, ⟨m, fun e he => fitAll_mem hg he⟩, fun e he => allWs_mem hwb he⟩
    | _ => cases hb
  have items : ∀ xs : List PyData, d = .tuple xs → (∃ k, ∀ e ∈ xs, fit e k = true) ∧ ∀ e ∈ xs, allW ok e := fun xs e => by
    subst e
    obtain ⟨k, _, _, hg⟩ := fit_tuple hf
    rw [allW] at hw
    exact ⟨⟨k, fun e he => fitAll_mem hg he⟩, fun e he => allWs_mem hw.2 he⟩
  rcases sized_cases (stm_yes h) with ⟨a, rfl⟩ | ⟨a, rfl⟩ | ⟨a, rfl⟩ | ⟨a, b, rfl⟩ | ⟨a, b, rfl⟩ | ⟨a, b, rfl⟩ | ⟨a, b, e, rfl⟩
  · intro b hb
    have hb : b ∈ ([] : List PyData) := hb
    cases hb
  · obtain ⟨⟨k, hk⟩, hw2⟩ := items _ rfl
    intro b hb
    have hb : b ∈ [a] := hb
    rw [List.mem_singleton.mp hb]
    have hl : listD a = true := h
    exact key a hl ⟨k, hk a (by simp)⟩ (hw2 a (by simp))
  · intro b hb
    have hb : b ∈ ([] : List PyData) := hb
    cases hb
  · intro y hy
    have hy : y ∈ ([] : List PyData) := hy
    cases hy
  · obtain ⟨⟨k, hk⟩, hw2⟩ := items _ rfl
    intro y hy
    have hy : y ∈ [b] := hy
    rw [List.mem_singleton.mp hy]
    have hl : (cellsD c a && listD b) = true := h
    rw [Bool.and_eq_true] at hl
    exact key b hl.2 ⟨k, hk b (by simp)⟩ (hw2 b (by simp))
  · obtain ⟨⟨k, hk⟩, hw2⟩ := items _ rfl
    intro y hy
    have hy : y ∈ [a, b] := hy
    have hl : (listD a && listD b) = true := h
    rw [Bool.and_eq_true] at hl
    rcases List.mem_cons.mp hy with rfl | hy
    · exact key _ hl.1 ⟨k, hk _ (by simp)⟩ (hw2 _ (by simp))
    · rw [List.mem_singleton.mp hy]
      exact key b hl.2 ⟨k, hk b (by simp)⟩ (hw2 b (by simp))
  · obtain ⟨⟨k, hk⟩, hw2⟩ := items _ rfl
    have hl : (btw 0 ((m : Int) - 1) a && (rowD c b && pairD e)) = true := h
    rw [Bool.and_eq_true, Bool.and_eq_true] at hl
    obtain ⟨x, y, rfl⟩ := pair_t hl.2.2
    have hl : (listD x && listD y) = true := hl.2.2
    rw [Bool.and_eq_true] at hl
    obtain ⟨k2, _, _, hg⟩ := fit_list (hk (.list [x, y]) (by simp))
    have hw3 := hw2 (.list [x, y]) (by simp)
    rw [allW] at hw3
    intro z hz
    have hz : z ∈ [x, y] := hz
    rcases List.mem_cons.mp hz with rfl | hz
    · exact key _ hl.1 ⟨k2, fitAll_mem hg (by simp)⟩ (allWs_mem hw3 (by simp))
    · rw [List.mem_singleton.mp hz]
      exact key y hl.2 ⟨k2, fitAll_mem hg (by simp)⟩ (allWs_mem hw3 (by simp))
theorem blocks_len {d : PyData} : (blocksD d).length ≤ 2 := by
  unfold blocksD
  split
  · split <;> simp
  · split
    · simp
    · split <;> simp
  · split <;> simp
  · simp
theorem itemsD_len {p : List Int} {ds : List PyData} : (itemsD p ds).length = ds.length := by rw [itemsD, List.length_map, List.length_range]
section
variable {P : Program} {w : World} {K : PySem.W.Frag} {mg : Str → Option Value} {base : Heap} {σ : L2.St} {H H' : Hp}
def spFits (K : PySem.W.Frag) (ok : Str → Prop) : Sp := fun vs H Q _ => ∃ (v : V) (d : PyData) (p : Addr) (path : List Int) (c m n : Nat), vs = [v, .ref p, .int (c : Int), .int (m : Int)] ∧ Dp K H v d ∧ SqT K H p (path.map V.int) ∧ path ≠ [] ∧ path.length ≤ 1000 ∧ fit d n = true ∧ wordOk ok d ∧ ∀ H', Ex H H' → Q (.bl (fitsD c m path d)) H'
theorem ev_orV {ta tb : TE} {a b : Bool} (h1 : Ev ta σ H (.bl a)) (h2 : a = false → Ev tb σ H (.bl b)) : Ev (tOrV ta tb) σ H (.bl (a || b)) := fun H1 e Q q =>
  h1 H1 e _ fun H2 e2 => ⟨a, rfl, by
    cases a with
    | true => exact q H2 e2
    | false => exact h2 rfl H2 (e.trans e2) Q fun H3 e3 => q H3 (e2.trans e3)⟩
theorem ev_noBlocks {te : TE} {E : XK} {v : V} {d : PyData} {c m : Nat} (h : Ev te σ H v) (hd : Dp K H v d) (hst : stmD c m d = true) : Ev (tNotT K (tCall (spBlocks K) [] E (tCons te tNil))) σ H (.bl (blocksD d).isEmpty) := fun H1 e Q q =>
  h H1 e _ fun H2 e2 => ⟨v, d, c, m, H2, rfl, Ex.refl H2, dp_ex (e.trans e2) d v hd, hst, fun B bs H3 nB e3 hB hx => ⟨!bs.isEmpty, .inl ⟨bs, sq_of hB, rfl⟩, by
    have l := dpa_len hx
    have z : (!!bs.isEmpty) = (blocksD d).isEmpty := by
      rw [Bool.not_not]
      cases bs with
      | nil => cases hb : blocksD d with
        | nil => rfl
        | cons _ _ => rw [hb] at l; cases l
      | cons _ _ => cases hb : blocksD d with
        | nil => rw [hb] at l; cases l
        | cons _ _ => rfl
    rw [z]
    exact q H3 (e2.trans e3)⟩⟩
theorem lastI_snoc {p : List Int} (h : p ≠ []) : ∃ r, p = r ++ [lastI p] := by
  refine ⟨p.dropLast, ?_⟩
  have e := List.dropLast_concat_getLast h
  have l : lastI p = p.getLast h := by
    rw [lastI, List.getLast_eq_getElem, List.getD_eq_getElem?_getD, List.getElem?_eq_getElem (by have := List.length_pos_iff.mpr h; omega)]
    rfl
  rw [l]
  exact e.symm
theorem ok_fits {f : Addr} {fd : FuncData} {k : Nat} {ok : Str → Prop} {tk tl : Tok} (F : Fun K "fits" "fits" sfits f fd) (z_len : mg "len" = none) (c_LIST_LIMIT : mg "LIST_LIMIT" = some (.int 8 tk)) (c_LAST_LEVEL : mg "LAST_LEVEL" = some (.int 3 tl))
    (Cis_statement : Cal P w K mg base 5 "is_statement" (spStm K ok) []) (Cblocks_of : Cal P w K mg base 1 "blocks_of" (spBlocks K) []) (hk : 5 ≤ k) : FnOk P w K mg base CX0 (k + 1) f fd ["value", "path", "cells", "procedures"] (spFits K ok) := by
  have sc := scfits
  refine F.ok sc (fun vs H Q E h => ?_) (fun cdv A outer s H vs Q E hr h => ?_)
  · obtain ⟨v, d, p, path, c, m, n, rfl, _⟩ := h
    rfl
  · obtain ⟨v, d, p, path, c, m, n, rfl, hd, hp, hne, hpl, hf, hw, q⟩ := h
    refine ⟨_, (pss_cons (ps_if (PW.pt (pw_or (pt_cmpR op_ge (pe_ix ix_tup (pv 1) (pe_un un_neg pe_int) (fun _ _ => rfl)) (pe_glob (v := .int 8) (by rfl) c_LIST_LIMIT ⟨_, rfl⟩) (nomark _)) (pw_or1 (pt_not (pt_val (pe_c Cis_statement hr (by omega) (by rfl) (pa_cons (pv 0) (pa_cons (pv 2) (pa_cons (pv 3) pa_nil)))))))))
      (pss_one (ps_ret pe_bl))
      pss_nil)
      (pss_cons (ps_set (i := 4) sc.nd rfl (by first | exact Or.inl rfl | exact Or.inr rfl) (pe_op op_fdivN (pe_callB call_len_seq (by rfl) z_len (by decide +kernel) (pa_cons (pv 1) pa_nil)) pe_int))
      (pss_one (ps_ret (pe_or (pe_cmpR op_lt (pv 4) (pe_glob (v := .int 3) (by rfl) c_LAST_LEVEL ⟨_, rfl⟩) (nomark _)) (pe_one (pe_notT (pe_c Cblocks_of hr (by omega) (by rfl) (pa_cons (pv 0) pa_nil))))))))), ?_⟩
    obtain ⟨r, hr⟩ := lastI_snoc hne
    have hat : atI (path.map V.int) (-1) = some (.int (lastI path)) := by
      have e : path.map V.int = r.map V.int ++ [.int (lastI path)] := by
        rw [congrArg (List.map V.int) hr, List.map_append]; rfl
      rw [e]
      exact atI_last _ _
    refine q_when (et_or (et_test (ev_op (ev_op (ev_var rfl) (ev_un ev_c ru_neg) (rv_ixT hp hat)) ev_c rv_I0)) fun _ => et_not (et_B (ev_spStm (ev_var rfl) (ev_var rfl) (ev_var rfl) hd hf hw))) (fun hb H1 e1 => ?_) (fun hb H1 e1 => ?_)
    · refine s_ret ev_c fun H2 e2 => ?_
      have z : fitsD c m path d = false := by
        rw [fitsD, hb]; rfl
      rw [z] at q
      exact q H2 (e1.trans e2)
    · refine q_asg (ev_op (ev_lenS (ev_var rfl) (.inr (ex_t e1 hp))) ev_c (rv_I ⟨by decide, by decide⟩)) fun H2 e2 => ?_
      have hst : stmD c m d = true := by
        cases h : stmD c m d with
        | true => rfl
        | false => rw [h] at hb; simp at hb
      have e12 := e1.trans e2
      refine s_ret (ev_orV (ev_op (ev_var rfl) ev_c rv_I0) fun _ => ev_noBlocks (ev_var rfl) (dp_ex e12 _ _ hd) hst) fun H3 e3 => ?_
      have z : fitsD c m path d = (decide (((path.map V.int).length : Int).fdiv 2 < 3) || (blocksD d).isEmpty) := by
        rw [fitsD, hb, List.length_map]
        have : ((path.length : Int).fdiv 2 < 3) ↔ (path.length / 2 < 3) := by
          rw [show ((path.length : Int).fdiv 2) = ((path.length / 2 : Nat) : Int) from by rw [Int.fdiv_eq_ediv_of_nonneg _ (by decide)]; rfl]
          omega
        rw [decide_eq_decide.mpr this]; rfl
      rw [z] at q
      exact q H3 (e12.trans e3)
end
section
variable {P : Program} {w : World} {K : PySem.W.Frag} {mg : Str → Option Value} {base : Heap} {σ : L2.St} {H H' H0 : Hp}
def StkT (K : PySem.W.Frag) (H0 H : Hp) (x : V) (e : List Int × PyData) : Prop := ∃ v, EntT K H x (e.1, v) ∧ Dp K H0 v e.2
abbrev Stk (K : PySem.W.Frag) (H0 H : Hp) : List V → List (List Int × PyData) → Prop := Paired (StkT K H0 H)
theorem stk_ex {xs : List V} {es : List (List Int × PyData)} (h : Stk K H0 H xs es) (k : Ex H H') : Stk K H0 H' xs es := Paired.mapP h fun _ _ ⟨v, x, y⟩ => ⟨v, entT_ex x k, y⟩
theorem stk_updL {D : Addr} {l l' : List V} {xs : List V} {es : List (List Int × PyData)} (h : Stk K H0 H xs es) (hD : H D = some (.lst l)) : Stk K H0 (upd H D (.lst l')) xs es := Paired.mapP h fun _ _ ⟨v, x, y⟩ => ⟨v, entT_updL x hD, y⟩
theorem paired_of_get {α β : Type} {F : α → β → Prop} : ∀ {a : List α} {b : List β}, a.length = b.length → (∀ (i : Nat) (x : α) (y : β), a[i]? = some x → b[i]? = some y → F x y) → Paired F a b
  | [], [], _, _ => .nil
  | x :: a, y :: b, h, k => .cons (k 0 x y rfl rfl) (paired_of_get (by simpa using h) fun i x y hx hy => k (i + 1) x y hx hy)
theorem paired_get {α β : Type} {F : α → β → Prop} : ∀ {a : List α} {b : List β}, Paired F a b → ∀ {i : Nat} {x : α} {y : β}, a[i]? = some x → b[i]? = some y → F x y
  | _, _, .nil, i, x, y, h, _ => by simp at h
  | _, _, .cons h hr, 0, x, y, e, f => by
    cases e; cases f; exact h
  | _, _, .cons h hr, i + 1, x, y, e, f => paired_get hr (i := i) e f
theorem dpa_get {H : Hp} : ∀ {xs : List V} {ds : List PyData}, DpAll K H xs ds → ∀ {i : Nat} {d : PyData}, ds[i]? = some d → ∃ v, xs[i]? = some v ∧ Dp K H v d
  | _, _, .nil, i, d, h => by simp at h
  | _, _, .cons a r, 0, d, h => by cases h; exact ⟨_, rfl, a⟩
  | _, _, .cons a r, i + 1, d, h => dpa_get r (i := i) h
theorem itemsD_get {p : List Int} {ds : List PyData} {i : Nat} (h : i < ds.length) : (itemsD p ds)[i]? = some (p ++ [(i : Int)], ds.getD i .none) := by
  rw [itemsD, List.getElem?_map, List.getElem?_range h]; rfl
theorem getD_some {α : Type} {l : List α} {i : Nat} {x : α} (d : α) (h : l[i]? = some x) : l.getD i d = x := by
  rw [List.getD_eq_getElem?_getD, h]; rfl
theorem stk_ents {ys xs : List V} {ds : List PyData} {path : List Int} (h : Ents K H ys (entsV xs path)) (hx : DpAll K H0 xs ds) : Stk K H0 H ys (itemsD path ds).reverse := by
  have lx := dpa_len hx
  have ly := paired_len h
  rw [entsV, List.length_map, List.length_range] at ly
  refine paired_of_get (by rw [List.length_reverse, itemsD_len, ly, lx]) fun i x y hi hj => ?_
  have hil : i < xs.length := by
    have := (List.getElem?_eq_some_iff.mp hi).1
    omega
  rw [List.getElem?_reverse (by rw [itemsD_len]; omega), itemsD_len, ← lx] at hj
  rw [itemsD_get (by omega)] at hj
  cases hj
  have hj : xs.length - 1 - i < ds.length := by omega
  have hd : ds[xs.length - 1 - i]? = some (ds.getD (xs.length - 1 - i) .none) := by
    rw [List.getElem?_eq_getElem hj, List.getD_eq_getElem?_getD, List.getElem?_eq_getElem hj]; rfl
  obtain ⟨v, hv, dv⟩ := dpa_get hx hd
  have g := paired_get h hi (y := (path ++ [((xs.length - 1 - i : Nat) : Int)], xs.getD (xs.length - 1 - i) .non)) (by rw [entsV, List.getElem?_map, List.getElem?_range hil]; rfl)
  exact ⟨v, by rw [getD_some _ hv] at g; exact g, dv⟩
theorem paired_unsnoc {α β : Type} {F : α → β → Prop} : ∀ {a : List α} {b : List β} {y : β}, Paired F a (b ++ [y]) → ∃ a0 x, a = a0 ++ [x] ∧ Paired F a0 b ∧ F x y
  | _, [], y, .cons h .nil => ⟨[], _, rfl, .nil, h⟩
  | _, z :: b, y, .cons h r => by
    obtain ⟨a0, x, rfl, k1, k2⟩ := paired_unsnoc r
    exact ⟨_ :: a0, x, rfl, .cons h k1, k2⟩
/-- what stands on the stack is good -/
def Gd (ok : Str → Prop) (many : Nat) (e : List Int × PyData) : Prop := e.1 ≠ [] ∧ e.1.length ≤ 2 * many + 1 ∧ (∃ n, fit e.2 n = true) ∧ allW ok e.2
theorem gd_items {ok : Str → Prop} {many : Nat} {p : List Int} {ds : List PyData} (hp : p.length ≤ 2 * many) (hf : ∃ n, ∀ e ∈ ds, fit e n = true) (hw : ∀ e ∈ ds, allW ok e) : ∀ e ∈ itemsD p ds, Gd ok many e := by
  intro e he
  rw [itemsD, List.mem_map] at he
  obtain ⟨i, hi, rfl⟩ := he
  rw [List.mem_range] at hi
  have hm : ds.getD i .none ∈ ds := by
    rw [List.getD_eq_getElem?_getD, List.getElem?_eq_getElem hi]
    exact List.getElem_mem hi
  obtain ⟨n, hf⟩ := hf
  exact ⟨by simp, by simp; omega, ⟨n, hf _ hm⟩, hw _ hm⟩
theorem gd_up {ok : Str → Prop} {a b : Nat} {e : List Int × PyData} (h : Gd ok a e) (hab : a ≤ b) : Gd ok b e := ⟨h.1, by have := h.2.1; omega, h.2.2⟩
theorem flatD_cons {p : List Int} {k : Nat} {bs : List PyData} (h : k < bs.length) : flatD p k (bs.drop k) = itemsD (p ++ [(k : Int)]) (elems (bs.getD k .none)) ++ flatD p (k + 1) (bs.drop (k + 1)) := by
  rw [List.drop_eq_getElem_cons h, flatD, List.getD_eq_getElem?_getD, List.getElem?_eq_getElem h]; rfl
end
section
variable {P : Program} {w : World} {K : PySem.W.Frag} {mg : Str → Option Value} {base : Heap} {σ : L2.St} {H H' H0 : Hp}
theorem ev_spFits {t1 t2 t3 t4 : TE} {E : XK} {v : V} {d : PyData} {p : Addr} {path : List Int} {ok : Str → Prop} {c m n : Nat} (h1 : Ev t1 σ H v) (h2 : Ev t2 σ H (.ref p)) (h3 : Ev t3 σ H (.int (c : Int))) (h4 : Ev t4 σ H (.int (m : Int))) (hd : Dp K H v d) (hp : SqT K H p (path.map V.int)) (hne : path ≠ []) (hl : path.length ≤ 1000) (hf : fit d n = true) (hw : wordOk ok d) :
    Ev (tCall (spFits K ok) [] E (tCons t1 (tCons t2 (tCons t3 (tCons t4 tNil))))) σ H (.bl (fitsD c m path d)) :=
  ev_call (ea_cons h1 (ea_cons h2 (ea_cons h3 (ea_cons h4 ea_nil)))) fun H1 e Q q _ => ⟨v, d, p, path, c, m, n, rfl, dp_ex e d v hd, ex_t e hp, hne, hl, hf, hw, q⟩
theorem q_while {c : TT} {tb tz : TS} {D : Ends} (Pv : L2.St → Hp → Prop) (μ : L2.St → Hp → Nat) (h0 : Pv σ H)
    (hs : ∀ σ H, Pv σ H → c σ H fun b H1 => if b = true then tb { nx := fun σ' H' => Pv σ' H' ∧ μ σ' H' < μ σ H, rt := D.rt, bk := tz D, ct := fun σ' H' => Pv σ' H' ∧ μ σ' H' < μ σ H } σ H1 else tz D σ H1)
    (mono : ∀ σ H (Q Q' : Bool → Hp → Prop), (∀ b H1, Q b H1 → Q' b H1) → c σ H Q → c σ H Q') : tSeq (tWhile c tb) tz D σ H :=
  while_by (D := { D with nx := tz D }) Pv μ h0 hs mono
theorem gd_flat {ok : Str → Prop} {many : Nat} {p : List Int} (hp : p.length + 1 ≤ 2 * many) : ∀ (bs : List PyData) (k : Nat), (∀ b ∈ bs, ∃ ds, b = .list ds ∧ ds.length ≤ 10000 ∧ (∃ n, ∀ e ∈ ds, fit e n = true) ∧ ∀ e ∈ ds, allW ok e) → ∀ e ∈ flatD p k bs, Gd ok many e
  | [], k, _, e, he => by cases he
  | b :: r, k, h, e, he => by
    obtain ⟨ds, rfl, _, hf, hw⟩ := h b (List.mem_cons_self ..)
    rw [flatD, List.mem_append] at he
    rcases he with he | he
    · exact gd_items (by simp; omega) hf hw e he
    · exact gd_flat hp r (k + 1) (fun b hb => h b (List.mem_cons_of_mem _ hb)) e he
theorem flat_len {p : List Int} : ∀ (bs : List PyData) (k : Nat), (∀ b ∈ bs, (elems b).length ≤ 10000) → (flatD p k bs).length ≤ 10000 * bs.length
  | [], k, _ => by simp [flatD]
  | b :: r, k, h => by
    have h1 := h b (List.mem_cons_self ..)
    have h2 := flat_len (p := p) r (k + 1) fun b hb => h b (List.mem_cons_of_mem _ hb)
    rw [flatD, List.length_append, itemsD_len, List.length_cons]
    omega
def spFF (K : PySem.W.Frag) (ok : Str → Prop) : Sp := fun vs H Q _ => ∃ (v : V) (ds : List PyData) (c m n : Nat), vs = [v, .int (c : Int), .int (m : Int)] ∧ Dp K H v (.list ds) ∧ fit (.list ds) n = true ∧ (∀ e ∈ ds, allW ok e) ∧
  (∀ H', Ex H H' → firstD c m ds = none → Q .non H') ∧ ∀ p t H', Ex H H' → firstD c m ds = some p → SqT K H' t (p.map V.int) → Q (.ref t) H'
def mu4 (σ : L2.St) (_ : Hp) : Nat := match σ[4]? with
  | some (some (V.int i)) => (13 - i).toNat
  | _ => 0
theorem ok_first_fault {f : Addr} {fd : FuncData} {k : Nat} {ok : Str → Prop} {tk : Tok} (F : Fun K "first_fault" "first_fault" sfirst_fault f fd) (z_range : mg "range" = none) (z_reversed : mg "reversed" = none) (z_len : mg "len" = none) (c_PROCEDURE_LIMIT : mg "PROCEDURE_LIMIT" = some (.int 12 tk))
    (Centries : Cal P w K mg base 1 "entries" (spEntries K) []) (Cfits : Cal P w K mg base 6 "fits" (spFits K ok) []) (Cblocks_of : Cal P w K mg base 1 "blocks_of" (spBlocks K) []) (hk : 6 ≤ k) : FnOk P w K mg base CX0 (k + 1) f fd ["body", "cells", "procedures"] (spFF K ok) := by
  have sc := scfirst_fault
  refine F.ok sc (fun vs H Q E h => ?_) (fun cdv A outer s H vs Q E hr h => ?_)
  · obtain ⟨v, ds, c, m, n, rfl, _⟩ := h
    rfl
  · obtain ⟨v, ds, c, m, n, rfl, hd, hf, hw, q1, q2⟩ := h
    refine ⟨_, (pss_cons (ps_set (i := 3) sc.nd rfl (by first | exact Or.inl rfl | exact Or.inr rfl) (pe_c Centries hr (by omega) (by rfl) (pa_cons (pv 0) (pa_cons (pe_tup pa_nil) pa_nil))))
      (pss_cons (ps_set (i := 4) sc.nd rfl (by first | exact Or.inl rfl | exact Or.inr rfl) pe_int)
      (pss_cons (ps_while PassesOwn.never (pt_truth (pv 3) (by intro _; rfl))
      (pss_cons (ps_asg (pe_bm0 PySem.F.plainAttrs_list PySem.F.slot_list_pop PySem.F.type_list_pop mt_pop (pv 3)) (pg_tup (by rfl) (pgs_cons (pg_name (i := 5) sc.nd rfl (by first | exact Or.inl rfl | exact Or.inr rfl)) (pgs_cons (pg_name (i := 6) sc.nd rfl (by first | exact Or.inl rfl | exact Or.inr rfl)) pgs_nil))))
      (pss_cons (ps_set (i := 4) sc.nd rfl (by first | exact Or.inl rfl | exact Or.inr rfl) (pe_op op_add (pv 4) pe_int))
      (pss_cons (ps_if (PW.pt (pw_or (pt_cmpR op_gt (pv 4) (pe_glob (v := .int 12) (by rfl) c_PROCEDURE_LIMIT ⟨_, rfl⟩) (nomark _)) (pw_or1 (pt_not (pt_val (pe_c Cfits hr (by omega) (by rfl) (pa_cons (pv 6) (pa_cons (pv 5) (pa_cons (pv 1) (pa_cons (pv 2) pa_nil))))))))))
      (pss_one (ps_ret (pv 5)))
      pss_nil)
      (pss_cons (ps_set (i := 7) sc.nd rfl (by first | exact Or.inl rfl | exact Or.inr rfl) (pe_c Cblocks_of hr (by omega) (by rfl) (pa_cons (pv 6) pa_nil)))
      (pss_one (ps_for PassesOwn.never rfl (pi_revR (by rfl) z_reversed (prg_1 (by rfl) z_range (pe_callB call_len_seq (by rfl) z_len (by decide +kernel) (pa_cons (pv 7) pa_nil)))) (pg_name (i := 8) sc.nd rfl (by first | exact Or.inl rfl | exact Or.inr rfl))
      (pss_one (ps_expr (pe_bm PySem.F.plainAttrs_list PySem.F.slot_list_extend PySem.F.type_list_extend mt_extend (pv 3) (pa_cons (pe_c Centries hr (by omega) (by rfl) (pa_cons (pe_ix ix_list (pv 7) (pv 8) (fun _ _ => rfl)) (pa_cons (pe_tup (pa_starK (K := K) rfl (pv 5) (pa_cons (pv 8) pa_nil))) pa_nil))) pa_nil)))))))))))
      (pss_one (ps_ret pe_non))))), ?_⟩
    obtain ⟨b, xs, rfl, hb, hx⟩ := dp_lst hd
    obtain ⟨fm, _, hl, hg⟩ := fit_list hf
    have lx := dpa_len hx
    refine q_run ?_
    refine ⟨.ref b, rfl, (by show 0 ≤ sizeLine; decide), fun T nT => ?_⟩
    refine ⟨b, T, xs, [], rfl, ex_l (Ex.new nT) hb, st_of upd_same, by omega, by simp, fun D ys H1 nD e1 hD hE => ?_⟩
    have nD0 : H D = none := new_ex (Ex.new nT) nD
    have e01 : Ex H H1 := (Ex.new nT).trans e1
    refine q_asg ev_c fun H2 e2 => ?_
    refine q_while (fun σ' H' => ∃ (st : List (List Int × PyData)) (many : Nat) (ys : List V) (x5 x6 x7 x8 : Option V), σ' = [some (.ref b), some (.int (c : Int)), some (.int (m : Int)), some (.ref D), some (.int (many : Int)), x5, x6, x7, x8] ∧ Ex H H' ∧ H' D = some (.lst ys) ∧ Stk K H H' ys st.reverse ∧ many ≤ 12 ∧ ffD c m (13 - many) st many = firstD c m ds ∧ st.length ≤ 10000 + 20000 * many ∧ ∀ e ∈ st, Gd ok many e) mu4
      ⟨itemsD [] ds, 0, ys, none, none, none, none, rfl, e01.trans e2, e2 _ _ hD, stk_ex (stk_ents hE hx) e2, by omega, rfl, by rw [itemsD_len]; omega, gd_items (by simp) ⟨fm, fun e he => fitAll_mem hg he⟩ hw⟩
      (fun σ' H' hP => ?_) (fun σ' H' Q' Q'' h ⟨v, hv, kk, tt, q⟩ => ⟨v, hv, kk, tt, h _ _ q⟩)
    obtain ⟨st, many, ys, x5, x6, x7, x8, rfl, eH, hD, hS, hm, hff, hsl, hgd⟩ := hP
    refine ⟨.ref D, rfl, !ys.isEmpty, .inl ⟨ys, sq_of hD, rfl⟩, ?_⟩
    cases st with
    | nil =>
      cases hS
      refine s_ret ev_c fun H3 e3 => q1 H3 (eH.trans e3) ?_
      rw [← hff, show 13 - many = (12 - many) + 1 by omega]; rfl
    | cons e0 st =>
      obtain ⟨p, d⟩ := e0
      rw [List.reverse_cons] at hS
      obtain ⟨ys0, x, rfl, hS0, v, hT, dv⟩ := paired_unsnoc hS
      have hne : (!(ys0 ++ [x]).isEmpty) = true := by simp
      rw [if_pos hne]
      obtain ⟨t, pa, rfl, ht, hpa⟩ := entT_updL (l' := (ys0 ++ [x]).dropLast) hT hD
      have hS1 := stk_updL (l' := (ys0 ++ [V.ref t]).dropLast) hS0 hD
      have e1' := eH.mut (o := .lst (ys0 ++ [V.ref t]).dropLast) nD0
      have hD1 : (upd H' D (.lst (ys0 ++ [V.ref t]).dropLast)) D = some (.lst ys0) := by rw [upd_same, List.dropLast_concat]
      refine ⟨.ref D, rfl, .inl ⟨rfl, _, sq_of hD⟩, D, ys0 ++ [V.ref t], V.ref t, rfl, rfl, hD, by simp, ?_⟩
      generalize upd H' D (.lst (ys0 ++ [V.ref t]).dropLast) = H3 at ht hpa hS1 e1' hD1 ⊢
      refine ⟨t, _, rfl, ht, rfl, .ref pa, _, rfl, v, _, rfl, rfl, ?_⟩
      dsimp only
      refine q_asg (i := 4) (v := .int ((many + 1 : Nat) : Int)) ?ev fun H4 e4 => ?_
      case ev => exact ev_is (ev_op (ev_var rfl) ev_c rv_I0) (by rw [Int.natCast_add]; rfl)
      have e14 := e1'.trans e4
      have hgp := hgd (p, d) (List.mem_cons_self ..)
      obtain ⟨hpn, hpl, ⟨nf, hfd⟩, hwd⟩ := hgp
      have hpl : p.length ≤ 2 * many + 1 := hpl
      refine q_when (et_or (et_test (ev_op (ev_var rfl) ev_c rv_I0)) fun _ => et_not (et_B (ev_spFits (path := p) (d := d) (ev_var rfl) (ev_var rfl) (ev_var rfl) (ev_var rfl) (dp_ex e14 _ _ dv) (ex_t e4 hpa) hpn (by omega) hfd (allW_word hwd)))) (fun hc H5 e5 => ?_) (fun hc H5 e5 => ?_)
      · refine s_ret (ev_var rfl) fun H6 e6 => q2 p pa H6 ((e14.trans e5).trans e6) ?_ (ex_t ((e4.trans e5).trans e6) hpa)
        rw [← hff, show 13 - many = (12 - many) + 1 by omega, ffD, if_pos]
        rw [← hc]
        exact congrArg (· || _) (decide_eq_decide.mpr (by omega))
      · have hc2 : (decide (12 < many + 1) || !fitsD c m p d) = false := by
          rw [← hc]
          exact congrArg (· || _) (decide_eq_decide.mpr (by omega))
        rw [Bool.or_eq_false_iff] at hc2
        have hm2 : many + 1 ≤ 12 := by
          have := of_decide_eq_false hc2.1
          omega
        have hfit : fitsD c m p d = true := by simpa using hc2.2
        have hst : stmD c m d = true := by
          cases h : stmD c m d with
          | true => rfl
          | false => rw [fitsD, h] at hfit; simp at hfit
        rw [show 13 - many = (12 - many) + 1 by omega, ffD, if_neg (by rw [hc2.1, hc2.2]; simp), show 12 - many = 13 - (many + 1) by omega] at hff
        have hbg := blocks_good hst ⟨nf, hfd⟩ hwd
        have hel : ∀ b ∈ blocksD d, (elems b).length ≤ 10000 := fun b hb => by
          obtain ⟨ds', rfl, hl', _⟩ := hbg b hb
          exact hl'
        have hnb := blocks_len (d := d)
        have e15 := e14.trans e5
        refine q_run ?_
        refine ⟨v, rfl, v, d, c, m, H, rfl, e15, dv, hst, fun B bs H6 nB e6 hB hxb => ?_⟩
        have lb := dpa_len hxb
        have hBD : B ≠ D := fun e => by
          rw [e] at nB
          rw [e5 _ _ (e4 _ _ hD1)] at nB
          cases nB
        have e16 := e15.trans e6
        refine ⟨.ref B, rfl, B, bs, rfl, .inl (sq_of hB), (bs.length : Int), rfl, by omega, by omega, by omega, by omega, ?_⟩
        have hn : ((bs.length : Int) - 0).toNat = bs.length := by omega
        rw [hn]
        have wk := (walk_rangeC (lo := (0 : Int) + ((bs.length : Nat) : Int) - 1) (c := -1) (n := bs.length)).mono (G' := fun _ => True) (Y' := fun i H x H' => H' = H ∧ x = .int ((bs.length - 1 - i : Nat) : Int)) (fun _ _ => trivial) (fun i H x H' hi _ y => ⟨y.1, by rw [y.2]; exact congrArg V.int (by omega)⟩)
        refine for_it wk (fun i σ'' H'' => ∃ (x8 : Option V) (ys' : List V), σ'' = [some (.ref b), some (.int (c : Int)), some (.int (m : Int)), some (.ref D), some (.int ((many + 1 : Nat) : Int)), some (.ref pa), some v, some (.ref B), x8] ∧ Ex H H'' ∧ H'' B = some (.lst bs) ∧ H'' D = some (.lst ys') ∧ SqT K H'' pa (p.map V.int) ∧
            Stk K H H'' ys' (flatD p (bs.length - i) ((blocksD d).drop (bs.length - i)) ++ st).reverse)
          ⟨x8, ys0, rfl, e16, hB, e6 _ _ (e5 _ _ (e4 _ _ hD1)), ex_t ((e4.trans e5).trans e6) hpa, ?h0⟩ (fun _ _ _ _ _ => trivial) (fun i x σ'' H'' Hy hi hP y => ?hstep) (fun σ'' H'' hP => ?hend)
        case h0 =>
          rw [Nat.sub_zero, List.drop_of_length_le (by omega)]
          exact stk_ex hS1 ((e4.trans e5).trans e6)
        case hend =>
          obtain ⟨x8', ys', rfl, eH2, hB2, hD2, hp2, hS2⟩ := hP
          rw [Nat.sub_self, List.drop_zero] at hS2
          refine ⟨⟨_, many + 1, ys', some (.ref pa), some v, some (.ref B), x8', rfl, eH2, hD2, hS2, hm2, hff, ?_, ?_⟩, ?_⟩
          · have := flat_len (p := p) (blocksD d) 0 hel
            rw [List.length_cons] at hsl
            rw [List.length_append]
            omega
          · intro e he
            rw [List.mem_append] at he
            rcases he with he | he
            · exact gd_flat (by omega) _ 0 hbg e he
            · exact gd_up (hgd e (List.mem_cons_of_mem _ he)) (by omega)
          · show (13 - ((many + 1 : Nat) : Int)).toNat < (13 - (many : Int)).toNat
            omega
        case hstep =>
          obtain ⟨x8', ys', rfl, eH2, hB2, hD2, hp2, hS2⟩ := hP
          obtain ⟨rfl, rfl⟩ := y
          generalize hj : bs.length - 1 - i = j at *
          have e1 : bs.length - (i + 1) = j := by omega
          have e2 : bs.length - i = j + 1 := by omega
          have hjl : j < (blocksD d).length := by omega
          rw [e2] at hS2
          obtain ⟨dsj, hdj, hlj, hfj, hwj⟩ := hbg _ (List.getElem_mem hjl)
          have hgj : (blocksD d)[j]? = some (.list dsj) := by rw [List.getElem?_eq_getElem hjl, hdj]
          obtain ⟨vb, hvb, dvb⟩ := dpa_get hxb hgj
          obtain ⟨bb, xsj, rfl, hsb, hxj⟩ := dp_lst dvb
          have lj := dpa_len hxj
          have ly := paired_len hS2
          have hlen : (flatD p (j + 1) ((blocksD d).drop (j + 1)) ++ st).length ≤ 300000 := by
            have := flat_len (p := p) ((blocksD d).drop (j + 1)) (j + 1) fun b hb => hel b (List.mem_of_mem_drop hb)
            rw [List.length_drop] at this
            rw [List.length_cons] at hsl
            rw [List.length_append]
            omega
          rw [List.length_reverse] at ly
          refine ⟨.ref D, rfl, .inl ⟨rfl, _, sq_of hD2⟩, ?_⟩
          refine ⟨.ref B, rfl, .int (j : Int), rfl, B, bs, (j : Int), .ref bb, rfl, rfl, sq_of hB2, atI_nat hvb, ?_⟩
          refine ⟨.ref pa, rfl, pa, p.map V.int, rfl, .inl hp2, .int (j : Int), rfl, sz_of (by simp; omega), fun T2 nT2 => ?_⟩
          have eT := Ex.new (o := .tup (p.map V.int ++ [V.int (j : Int)])) nT2
          refine ⟨bb, T2, xsj, p ++ [(j : Int)], rfl, ex_l (eH2.trans eT) hsb, st_of (by rw [upd_same, List.map_append]; rfl), by omega, by simp; omega, fun D2 ys2 H7 nD2 e7 hD2' hE => ?_⟩
          have e27 := eT.trans e7
          have hD7 := e27 _ _ hD2
          refine ⟨D, D2, ys', ys2, rfl, rfl, hD7, hD2', ?_, ?_⟩
          · have l2 := paired_len hE
            rw [entsV, List.length_map, List.length_range] at l2
            exact Nat.le_trans (m := 400000) (by omega) (by decide)
          · refine ⟨some (.int (j : Int)), ys' ++ ys2, rfl, (eH2.trans e27).mut nD0, by rw [upd_ne hBD]; exact e27 _ _ hB2, upd_same, sqT_updL (ex_t e27 hp2) hD7, ?_⟩
            rw [e1, flatD_cons hjl, getD_some _ hgj, List.append_assoc, List.reverse_append]
            exact paired_app (stk_updL (stk_ex hS2 e27) hD7) (stk_updL (stk_ents hE hxj) hD7)
end
abbrev scheck_bodies : Stmt := topS 32
theorem sccheck_bodies : FnScope ["cells", "bodies", "procedure", "body", "path"] ["cells", "bodies"] (defScope scheck_bodies) := ⟨rfl, rfl, rfl, by decide +kernel, rfl, by decide +kernel, by decide +kernel⟩
abbrev sBook___init__ : Stmt := inClass (topS 34) 0
theorem scBook___init__ : FnScope ["self", "cells", "bodies"] ["self", "cells", "bodies"] (defScope sBook___init__) := ⟨rfl, rfl, rfl, by decide +kernel, rfl, by decide +kernel, by decide +kernel⟩
abbrev sBook_cells : Stmt := inClass (topS 34) 1
theorem scBook_cells : FnScope ["self"] ["self"] (defScope sBook_cells) := ⟨rfl, rfl, rfl, by decide +kernel, rfl, by decide +kernel, by decide +kernel⟩
abbrev sBook_bodies : Stmt := inClass (topS 34) 2
theorem scBook_bodies : FnScope ["self"] ["self"] (defScope sBook_bodies) := ⟨rfl, rfl, rfl, by decide +kernel, rfl, by decide +kernel, by decide +kernel⟩
abbrev sBook_calls : Stmt := inClass (topS 34) 3
theorem scBook_calls : FnScope ["self"] ["self"] (defScope sBook_calls) := ⟨rfl, rfl, rfl, by decide +kernel, rfl, by decide +kernel, by decide +kernel⟩
abbrev sBook___len__ : Stmt := inClass (topS 34) 4
theorem scBook___len__ : FnScope ["self"] ["self"] (defScope sBook___len__) := ⟨rfl, rfl, rfl, by decide +kernel, rfl, by decide +kernel, by decide +kernel⟩
abbrev sBook___getitem__ : Stmt := inClass (topS 34) 5
theorem scBook___getitem__ : FnScope ["self", "at", "procedure", "path", "statement"] ["self", "at"] (defScope sBook___getitem__) := ⟨rfl, rfl, rfl, by decide +kernel, rfl, by decide +kernel, by decide +kernel⟩
abbrev sBook___eq__ : Stmt := inClass (topS 34) 7
theorem scBook___eq__ : FnScope ["self", "other"] ["self", "other"] (defScope sBook___eq__) := ⟨rfl, rfl, rfl, by decide +kernel, rfl, by decide +kernel, by decide +kernel⟩
abbrev sstatement_at : Stmt := topS 33
theorem scstatement_at : FnScope ["body", "path", "place", "statement", "step"] ["body", "path"] (defScope sstatement_at) := ⟨rfl, rfl, rfl, by decide +kernel, rfl, by decide +kernel, by decide +kernel⟩
abbrev splaces : Stmt := topS 25
theorem scplaces : FnScope ["body", "rows", "index", "statement", "number", "block", "path", "inner"] ["body"] (defScope splaces) := ⟨rfl, rfl, rfl, by decide +kernel, rfl, by decide +kernel, by decide +kernel⟩
section
variable {P : Program} {w : World} {K : PySem.W.Frag} {mg : Str → Option Value} {base : Heap} {σ : L2.St} {H H' H0 : Hp}
theorem ev_spFF0 {t1 t2 t3 : TE} {E : XK} {v : V} {ds : List PyData} {ok : Str → Prop} {c m n : Nat} (h1 : Ev t1 σ H v) (h2 : Ev t2 σ H (.int (c : Int))) (h3 : Ev t3 σ H (.int (m : Int))) (hd : Dp K H v (.list ds)) (hf : fit (.list ds) n = true) (hw : ∀ e ∈ ds, allW ok e) (h0 : firstD c m ds = none) :
    Ev (tCall (spFF K ok) [] E (tCons t1 (tCons t2 (tCons t3 tNil)))) σ H .non :=
  ev_call (ea_cons h1 (ea_cons h2 (ea_cons h3 ea_nil))) fun H1 e Q q _ => ⟨v, ds, c, m, n, rfl, dp_ex e _ v hd, hf, hw, fun H' e' _ => q H' e', fun p t H' e' h _ => by rw [h0] at h; cases h⟩
/-- bodies without a fault -/
def okBodies (ok : Str → Prop) (c : Nat) (bs : List PyData) : Prop := 1 ≤ bs.length ∧ bs.length ≤ 3 ∧ ∀ b ∈ bs, ∃ ds, b = .list ds ∧ (∀ e ∈ ds, allW ok e) ∧ firstD c bs.length ds = none
def spChk (K : PySem.W.Frag) (ok : Str → Prop) : Sp := fun vs H Q _ => ∃ (v : V) (bs : List PyData) (c n : Nat), vs = [.int (c : Int), v] ∧ Dp K H v (.list bs) ∧ fit (.list bs) n = true ∧ okBodies ok c bs ∧ ∀ H', Ex H H' → Q .non H'
theorem ok_check_bodies {f : Addr} {fd : FuncData} {k : Nat} {ok : Str → Prop} {tk : Tok} (F : Fun K "check_bodies" "check_bodies" scheck_bodies f fd) (z_isinstance : mg "isinstance" = none) (z_list : mg "list" = none) (z_len : mg "len" = none) (z_enumerate : mg "enumerate" = none) (c_MOST_PROCEDURES : mg "MOST_PROCEDURES" = some (.int 3 tk))
    (Cfirst_fault : Cal P w K mg base 7 "first_fault" (spFF K ok) []) (hk : 7 ≤ k) : FnOk P w K mg base CX0 (k + 1) f fd ["cells", "bodies"] (spChk K ok) := by
  have sc := sccheck_bodies
  refine F.ok sc (fun vs H Q E h => ?_) (fun cdv A outer s H vs Q E hr h => ?_)
  · obtain ⟨v, bs, c, n, rfl, _⟩ := h
    rfl
  · obtain ⟨v, bs, c, n, rfl, hd, hf, hok, q⟩ := h
    refine ⟨_, (pss_cons (ps_if (PW.pt (pw_or (pt_not (pt_val (pe_callB call_isi (by rfl) z_isinstance (by decide +kernel) (pa_cons (pv 1) (pa_cons (pe_bltn (v := .ty "list") (by rfl) z_list (by decide +kernel) rfl) pa_nil))))) (pw_or1 (pt_not (pt_chain op_le op_le pe_int (pe_callB call_len_seq (by rfl) z_len (by decide +kernel) (pa_cons (pv 1) pa_nil)) (pe_glob (v := .int 3) (by rfl) c_MOST_PROCEDURES ⟨_, rfl⟩))))))
      (pss_one ps_never)
      pss_nil)
      (pss_one (ps_for PassesOwn.never rfl (pi_enum (by rfl) z_enumerate (pa_cons (pv 1) pa_nil)) (pg_tup (by rfl) (pgs_cons (pg_name (i := 2) sc.nd rfl (by first | exact Or.inl rfl | exact Or.inr rfl)) (pgs_cons (pg_name (i := 3) sc.nd rfl (by first | exact Or.inl rfl | exact Or.inr rfl)) pgs_nil)))
      (pss_cons (ps_if (pt_not (pt_val (pe_callB call_isi (by rfl) z_isinstance (by decide +kernel) (pa_cons (pv 3) (pa_cons (pe_bltn (v := .ty "list") (by rfl) z_list (by decide +kernel) rfl) pa_nil)))))
      (pss_one ps_never)
      pss_nil)
      (pss_cons (ps_set (i := 4) sc.nd rfl (by first | exact Or.inl rfl | exact Or.inr rfl) (pe_c Cfirst_fault hr (by omega) (by rfl) (pa_cons (pv 3) (pa_cons (pv 0) (pa_cons (pe_callB call_len_seq (by rfl) z_len (by decide +kernel) (pa_cons (pv 1) pa_nil)) pa_nil)))))
      (pss_one (ps_if (pt_cmpR op_notN (pv 4) pe_non (nomark _))
      (pss_one ps_never)
      pss_nil))))))), ?_⟩
    obtain ⟨l1, l3, hall⟩ := hok
    have kd := kitB_isa (PyData.list bs)
    have hd0 := hd
    obtain ⟨b, xs, rfl, hb, hx⟩ := dp_lst hd
    obtain ⟨fm, _, hl, hg⟩ := fit_list hf
    have lx := dpa_len hx
    refine q_when (b := false) (et_or (a := false) (b := false) (et_is (et_not (et_B (ev_isi hd0 (ev_var rfl) kd.2.2.2.1))) (by rw [isa_listD rfl]; rfl)) fun _ => et_is (et_not (et_test (ev_chain (b := decide ((xs.length : Int) ≤ 3)) ev_c (ev_lenS (ev_var rfl) (.inl hb)) rv_I0 fun _ => ⟨ev_c, rv_I0⟩))) ?hlen) (fun h => (nomatch h)) fun _ H1 e1 => ?_
    case hlen =>
      rw [decide_eq_true (by omega : (1 : Int) ≤ (xs.length : Int)), decide_eq_true (by omega : (xs.length : Int) ≤ 3)]; rfl
    refine ⟨.ref b, rfl, b, xs, rfl, ex_l e1 hb, ?_⟩
    refine for_it walk_enum (fun i σ' H' => ∃ x2 x3 x4 : Option V, σ' = [some (.int (c : Int)), some (.ref b), x2, x3, x4] ∧ Ex H H') ⟨none, none, none, rfl, e1⟩ (fun i σ' H' _ ⟨_, _, _, _, e⟩ => ex_l e hb) (fun i x σ' H' H'' hi hP y => ?_) (fun σ' H' ⟨_, _, _, _, e⟩ => q H' e)
    obtain ⟨x2, x3, x4, rfl, e2⟩ := hP
    obtain ⟨T, x, y, rfl, nT, rfl, hx', hy⟩ := y
    cases hx'
    have eT := e2.trans (Ex.new (o := .tup [.int (i : Nat), y]) nT)
    have hib : i < bs.length := by omega
    obtain ⟨ds, hds, hwd, h0⟩ := hall _ (List.getElem_mem hib)
    have hgi : bs[i]? = some (.list ds) := by rw [List.getElem?_eq_getElem hib, hds]
    obtain ⟨y', hy', dy⟩ := dpa_get hx hgi
    have hyy : some y' = some y := hy'.symm.trans hy
    cases hyy
    have kd2 := kitB_isa (PyData.list ds)
    have fds : fit (.list ds) fm = true := by rw [← hds]; exact fitAll_mem hg (List.getElem_mem hib)
    refine ⟨T, _, rfl, st_of upd_same, rfl, _, _, rfl, _, _, rfl, rfl, ?_⟩
    dsimp only
    refine q_when (b := false) (et_is (et_not (et_B (ev_isi (dp_ex eT _ _ dy) (ev_var rfl) kd2.2.2.2.1))) (by rw [isa_listD rfl]; rfl)) (fun h => (nomatch h)) fun _ H3 e3 => ?_
    have e23 := eT.trans e3
    refine q_asg (ev_spFF0 (m := bs.length) (ev_var rfl) (ev_var rfl) (ev_is (ev_lenS (ev_var rfl) (.inl (ex_l e23 hb))) (by rw [lx])) (dp_ex e23 _ _ dy) fds hwd h0) fun H4 e4 => ?_
    refine s_when (b := false) (et_is (et_test (ev_op (z := .bl (!decide (V.non = V.non))) (ev_var rfl) ev_c (rv_val fun _ _ _ q => ⟨rfl, q⟩))) (by simp)) (fun h => (nomatch h)) fun _ H5 e5 => ?_
    exact ⟨_, _, _, rfl, (e23.trans e4).trans e5⟩
end
open C8 (Mak pe_mk)
section
variable {P : Program} {w : World} {K : PySem.W.Frag} {mg : Str → Option Value} {base : Heap} {σ : L2.St} {H H' H0 : Hp}
theorem ev_spChk {t1 t2 : TE} {E : XK} {v : V} {bs : List PyData} {ok : Str → Prop} {c n : Nat} (h1 : Ev t1 σ H (.int (c : Int))) (h2 : Ev t2 σ H v) (hd : Dp K H v (.list bs)) (hf : fit (.list bs) n = true) (hok : okBodies ok c bs) :
    Ev (tCall (spChk K ok) [] E (tCons t1 (tCons t2 tNil))) σ H .non :=
  ev_call (ea_cons h1 (ea_cons h2 ea_nil)) fun H1 e Q q _ => ⟨v, bs, c, n, rfl, dp_ex e _ v hd, hf, hok, q⟩
/-- a book: its cells, and a copy of its bodies -/
def IsBook (N : Addr → Prop) (C : Addr) (H : Hp) (x : Addr) (c : Nat) (bs : List PyData) : Prop := ∃ dx v, H x = some (.ins C dx [("_cells", .int (c : Int)), ("_bodies", v)]) ∧ Dq N H v (.list bs)
def spInit (K : PySem.W.Frag) (ok : Str → Prop) (C : Addr) (cn : Nat) : Sp := fun vs H Q _ => ∃ (x dx : Addr) (v : V) (bs : List PyData) (c n : Nat) (Hb : Hp), vs = [.ref x, .int (c : Int), v] ∧ H x = some (.ins C dx []) ∧ Hb x = none ∧ Ex Hb H ∧ Dp K Hb v (.list bs) ∧ fit (.list bs) n = true ∧ cn = n + 1 ∧ 1 ≤ c ∧ c ≤ 3 ∧ okBodies ok c bs ∧
  ∀ H', Ex Hb H' → IsBook (New Hb) C H' x c bs → Q .non H'
theorem mak_Book {C f : Addr} {fd : FuncData} {k cn : Nat} {ok : Str → Prop} {tk : Tok} (M : Mk K C f) (hm : mg "Book" = some (.ref C)) (F : Fun K "__init__" "Book.__init__" sBook___init__ f fd) (b : Binds K fd ["self", "cells", "bodies"] []) (hc : Cls K C) (n1 : NoAttr K C "_cells") (n2 : NoAttr K C "_bodies") (c_MOST_CELLS : mg "MOST_CELLS" = some (.int 3 tk))
    (Cis_between : Cal P w K mg base 2 "is_between" (spBtw K) []) (Ccheck_bodies : Cal P w K mg base 8 "check_bodies" (spChk K ok) []) (Ccopied : Cal P w K mg base cn "copied" (spCopy K cn) []) (hk : 8 ≤ k) (hcn : cn ≤ k) : Mak P w K mg base (k + 1) "Book" C (spInit K ok C cn) [] := by
  have sc := scBook___init__
  refine ⟨f, fd, ["self", "cells", "bodies"], [], M, ?_, hm, b, .nil⟩
  refine F.ok sc (fun vs H Q E h => ?_) (fun cdv A outer s H vs Q E hr h => ?_)
  · obtain ⟨x, dx, v, bs, c, n, Hb, rfl, _⟩ := h
    rfl
  · obtain ⟨x, dx, v, bs, c, n, Hb, rfl, hx, hbx, eb, hd, hf, hcn2, c1, c3, hok, q⟩ := h
    refine ⟨_, (pss_cons (ps_if (pt_not (pt_val (pe_c Cis_between hr (by omega) (by rfl) (pa_cons (pv 1) (pa_cons pe_int (pa_cons (pe_glob (v := .int 3) (by rfl) c_MOST_CELLS ⟨_, rfl⟩) pa_nil))))))
      (pss_one ps_never)
      pss_nil)
      (pss_cons (ps_expr (pe_c Ccheck_bodies hr (by omega) (by rfl) (pa_cons (pv 1) (pa_cons (pv 2) pa_nil))))
      (pss_cons (ps_fld (pv 0) (pv 1) rfl)
      (pss_one (ps_fld (pv 0) (pe_c Ccopied hr (by omega) (by rfl) (pa_cons (pv 2) pa_nil)) rfl))))), ?_⟩
    refine q_when (b := false) (et_is (et_not (et_B (ev_spBtw (d := .int (c : Int)) (ev_var rfl) ev_c ev_c (.int _)))) (by rw [btw, decide_eq_true (by omega : (1 : Int) ≤ (c : Int)), decide_eq_true (by omega : (c : Int) ≤ 3)]; rfl)) (fun h => (nomatch h)) fun _ H1 e1 => ?_
    have edrop : ∀ {te : TE} {D : Ends} {tz : TS} {σ : L2.St} {H : Hp} {v : V}, Ev te σ H v → (∀ H1, Ex H H1 → tz D σ H1) → tSeq (tDrop te) tz D σ H := fun h k => h _ (Ex.refl _) _ fun H2 e2 => k H2 e2
    refine edrop (ev_spChk (ev_var rfl) (ev_var rfl) (dp_ex (eb.trans e1) _ _ hd) hf hok) fun H2 e2 => ?_
    have e02 := e1.trans e2
    have eb2 := eb.trans e02
    refine ⟨.int (c : Int), rfl, .ref x, rfl, x, C, dx, [], rfl, e02 _ _ hx, hc, n1, by decide, ?_⟩
    have eb3 := eb2.mut (o := .ins C dx (putF "_cells" (V.int (c : Int)) [])) hbx
    have hx3 : (upd H2 x (.ins C dx (putF "_cells" (V.int (c : Int)) []))) x = some (.ins C dx [("_cells", .int (c : Int))]) := upd_same
    generalize upd H2 x (.ins C dx (putF "_cells" (V.int (c : Int)) [])) = H3 at eb3 hx3 ⊢
    dsimp only
    refine ⟨v, rfl, v, .list bs, n, rfl, hcn2, dp_ex eb3 _ _ hd, hf, fun v' H4 e4 hq => ?_⟩
    refine ⟨.ref x, rfl, x, C, dx, [("_cells", .int (c : Int))], rfl, e4 _ _ hx3, hc, n2, by show 1 < 1000; decide, ?_⟩
    refine q _ ((eb3.trans e4).mut hbx) ⟨dx, v', upd_same, dq_to (fun a na => new_ex eb3 na) (fun a o na ho => ?_) _ _ hq⟩
    rw [upd_ne (fun e => by rw [e] at na; rw [show H3 x = none from na] at hx3; cases hx3)]
    exact ho
end
/-! ### what the law draws has no fault -/
theorem row_ok {c : Nat} {r : List Int} (h : okR c r) : rowD c (LI r) = true := by
  rw [rowD, List.length_map, decide_eq_true h.1, Bool.true_and, List.all_eq_true]
  intro x hx
  rw [List.mem_map] at hx
  obtain ⟨i, hi, rfl⟩ := hx
  have := h.2 i hi
  rw [btw, decide_eq_true this.1, decide_eq_true this.2]; rfl
theorem btw_nat {k m : Nat} (h : k < m) : btw 0 ((m : Int) - 1) (.int (k : Int)) = true := by
  rw [btw, decide_eq_true (by omega), decide_eq_true (by omega)]; rfl
theorem up_asc : ∀ (cs : List Nat), cs.Pairwise (· < ·) → up ((cs.map (Nat.cast : Nat → Int)).map PyData.int) = true
  | [], _ => rfl
  | [_], _ => rfl
  | a :: b :: r, h => by
    rw [List.pairwise_cons] at h
    have ab := h.1 b (List.mem_cons_self ..)
    have g := up_asc (b :: r) h.2
    show (decide ((a : Int) < (b : Int)) && up (PyData.int (b : Int) :: (r.map (Nat.cast : Nat → Int)).map PyData.int)) = true
    rw [decide_eq_true (by omega), Bool.true_and]
    exact g
theorem cells_ok {c : Nat} {cs : List Nat} (h : asc c cs) : cellsD c (LI (cs.map (Nat.cast : Nat → Int))) = true := by
  show (List.all _ _ && up _) = true
  rw [up_asc cs h.1, Bool.and_true, List.all_eq_true]
  intro x hx
  rw [List.map_map, List.mem_map] at hx
  obtain ⟨k, hk, rfl⟩ := hx
  exact btw_nat (h.2 k hk)
theorem stm_okD {c m lv : Nat} {s : Stm} (h : okS c m s lv) : stmD c m (toD s) = true := by
  cases s with
  | set k r =>
    rw [okS] at h; rw [toD]
    show (btw 0 ((c : Int) - 1) (.int (k : Int)) && rowD c (LI r)) = true
    rw [btw_nat h.1, row_ok h.2]; rfl
  | carry r =>
    rw [okS] at h; rw [toD]
    exact row_ok h
  | keep cs b =>
    rw [okS] at h; rw [toD]
    show (cellsD c (LI _) && true) = true
    rw [cells_ok h.2.1]; rfl
  | either a b => rw [toD]; rfl
  | again b => rw [toD]; rfl
  | call p r a b =>
    rw [okS] at h; rw [toD]
    show (btw 0 ((m : Int) - 1) (.int (p : Int)) && (rowD c (LI r) && true)) = true
    rw [btw_nat h.2.1, row_ok h.2.2.1]; rfl
  | fin w =>
    rw [okS] at h; rw [toD]
    show btw 0 1 (.int (w : Int)) = true
    exact btw_nat (m := 2) h
/-- the blocks -/
def blks : Stm → List (List Stm)
  | .keep _ b => [b]
  | .either a b => [a, b]
  | .again b => [b]
  | .call _ _ a b => [a, b]
  | _ => []
theorem blocks_toD (s : Stm) : blocksD (toD s) = (blks s).map fun b => .list (toDs b) := by
  cases s <;> rw [toD] <;> rfl
def itF (p : List Int) : Nat → List PyData → List (List Int × PyData)
  | _, [] => []
  | i, d :: r => (p ++ [(i : Int)], d) :: itF p (i + 1) r
theorem itF_is (p : List Int) : ∀ (ds : List PyData) (k : Nat), (List.range ds.length).map (fun (i : Nat) => (p ++ [((k + i : Nat) : Int)], ds.getD i .none)) = itF p k ds
  | [], k => rfl
  | d :: r, k => by
    rw [List.length_cons, List.range_succ_eq_map, List.map_cons, List.map_map, itF, ← itF_is p r (k + 1)]
    refine List.cons_eq_cons.mpr ⟨rfl, List.map_congr_left fun i _ => ?_⟩
    show (p ++ [((k + (i + 1) : Nat) : Int)], r.getD i .none) = (p ++ [((k + 1 + i : Nat) : Int)], r.getD i .none)
    rw [show k + (i + 1) = k + 1 + i by omega]
theorem itemsD_itF (p : List Int) (ds : List PyData) : itemsD p ds = itF p 0 ds := by
  rw [← itF_is p ds 0, itemsD]
  refine List.map_congr_left fun i _ => ?_
  rw [Nat.zero_add]
theorem lastI_at (p : List Int) (i : Int) : lastI (p ++ [i]) = i := by
  rw [lastI, List.length_append, List.length_singleton, Nat.add_sub_cancel, List.getD_eq_getElem?_getD, List.getElem?_append_right (Nat.le_refl _), Nat.sub_self]; rfl
theorem fits_ok {c m lv i : Nat} {s : Stm} {p : List Int} (h : okS c m s lv) (hp : p.length = 2 * lv) (hi : i < 8) : fitsD c m (p ++ [(i : Int)]) (toD s) = true := by
  rw [fitsD, lastI_at, stm_okD h, decide_eq_false (by omega), blocks_toD]
  show (true && (decide _ || _)) = true
  rw [Bool.true_and, List.length_append, hp, List.length_singleton]
  by_cases hl : lv < 3
  · rw [decide_eq_true (by omega)]; rfl
  · cases s with
    | keep _ _ => rw [okS] at h; exact absurd h.1 hl
    | either _ _ => rw [okS] at h; exact absurd h.1 hl
    | again _ => rw [okS] at h; exact absurd h.1 hl
    | call _ _ _ _ => rw [okS] at h; exact absurd h.1 hl
    | _ => exact Bool.or_true _
theorem ff_step {c m f many : Nat} {p : List Int} {d : PyData} {st : List (List Int × PyData)} (hf : fitsD c m p d = true) (hm : many < 12) : ffD c m (f + 1) ((p, d) :: st) many = ffD c m f (flatD p 0 (blocksD d) ++ st) (many + 1) := by
  rw [ffD, if_neg]
  rw [hf, decide_eq_false (by omega)]; simp
mutual
theorem ff_S {c m : Nat} : ∀ (s : Stm) {lv i f many : Nat} {p : List Int} {st : List (List Int × PyData)}, okS c m s lv → p.length = 2 * lv → i < 8 → many + cnt s ≤ 12 → ffD c m (f + cnt s) ((p ++ [(i : Int)], toD s) :: st) many = ffD c m f st (many + cnt s)
  | .set k r, lv, i, f, many, p, st, h, hp, hi, hm => by
    have hf := fits_ok h hp hi
    rw [cnt] at hm ⊢
    rw [ff_step hf (by omega), blocks_toD]; rfl
  | .carry r, lv, i, f, many, p, st, h, hp, hi, hm => by
    have hf := fits_ok h hp hi
    rw [cnt] at hm ⊢
    rw [ff_step hf (by omega), blocks_toD]; rfl
  | .fin r, lv, i, f, many, p, st, h, hp, hi, hm => by
    have hf := fits_ok h hp hi
    rw [cnt] at hm ⊢
    rw [ff_step hf (by omega), blocks_toD]; rfl
  | .keep cs b, lv, i, f, many, p, st, h, hp, hi, hm => by
    have hf := fits_ok h hp hi
    rw [okS] at h
    rw [cnt] at hm ⊢
    rw [show f + (1 + cntL b) = (f + cntL b) + 1 by omega, ff_step hf (by omega), blocks_toD]
    show ffD c m _ ((itemsD ((p ++ [(i : Int)]) ++ [((0 : Nat) : Int)]) (toDs b) ++ []) ++ st) _ = _
    rw [List.append_nil, itemsD_itF, ff_L b (lv := lv + 1) h.2.2.2 (by simp; omega) (by omega) (by omega)]
    exact congrArg _ (by omega)
  | .again b, lv, i, f, many, p, st, h, hp, hi, hm => by
    have hf := fits_ok h hp hi
    rw [okS] at h
    rw [cnt] at hm ⊢
    rw [show f + (1 + cntL b) = (f + cntL b) + 1 by omega, ff_step hf (by omega), blocks_toD]
    show ffD c m _ ((itemsD ((p ++ [(i : Int)]) ++ [((0 : Nat) : Int)]) (toDs b) ++ []) ++ st) _ = _
    rw [List.append_nil, itemsD_itF, ff_L b (lv := lv + 1) h.2.2 (by simp; omega) (by omega) (by omega)]
    exact congrArg _ (by omega)
  | .either a b, lv, i, f, many, p, st, h, hp, hi, hm => by
    have hf := fits_ok h hp hi
    rw [okS] at h
    rw [cnt] at hm ⊢
    rw [show f + (1 + cntL a + cntL b) = ((f + cntL b) + cntL a) + 1 by omega, ff_step hf (by omega), blocks_toD]
    show ffD c m _ ((itemsD ((p ++ [(i : Int)]) ++ [((0 : Nat) : Int)]) (toDs a) ++ (itemsD ((p ++ [(i : Int)]) ++ [((1 : Nat) : Int)]) (toDs b) ++ [])) ++ st) _ = _
    rw [List.append_nil, itemsD_itF, itemsD_itF, List.append_assoc, ff_L a (lv := lv + 1) h.2.2.1 (by simp; omega) (by omega) (by omega), ff_L b (lv := lv + 1) h.2.2.2.2 (by simp; omega) (by omega) (by omega)]
    exact congrArg _ (by omega)
  | .call q r a b, lv, i, f, many, p, st, h, hp, hi, hm => by
    have hf := fits_ok h hp hi
    rw [okS] at h
    rw [cnt] at hm ⊢
    rw [show f + (1 + cntL a + cntL b) = ((f + cntL b) + cntL a) + 1 by omega, ff_step hf (by omega), blocks_toD]
    show ffD c m _ ((itemsD ((p ++ [(i : Int)]) ++ [((0 : Nat) : Int)]) (toDs a) ++ (itemsD ((p ++ [(i : Int)]) ++ [((1 : Nat) : Int)]) (toDs b) ++ [])) ++ st) _ = _
    rw [List.append_nil, itemsD_itF, itemsD_itF, List.append_assoc, ff_L a (lv := lv + 1) h.2.2.2.2.1 (by simp; omega) (by omega) (by omega), ff_L b (lv := lv + 1) h.2.2.2.2.2.2 (by simp; omega) (by omega) (by omega)]
    exact congrArg _ (by omega)
theorem ff_L {c m : Nat} : ∀ (ss : List Stm) {lv i f many : Nat} {p : List Int} {st : List (List Int × PyData)}, okL c m ss lv → p.length = 2 * lv → i + ss.length ≤ 8 → many + cntL ss ≤ 12 → ffD c m (f + cntL ss) (itF p i (toDs ss) ++ st) many = ffD c m f st (many + cntL ss)
  | [], lv, i, f, many, p, st, h, hp, hi, hm => by rw [cntL, toDs, itF]; rfl
  | s :: r, lv, i, f, many, p, st, h, hp, hi, hm => by
    rw [okL] at h
    rw [cntL] at hm ⊢
    rw [List.length_cons] at hi
    rw [toDs, itF, List.cons_append, show f + (cnt s + cntL r) = (f + cntL r) + cnt s by omega, ff_S s h.1 hp (by omega) (by omega), ff_L r h.2 hp (by omega) (by omega)]
    exact congrArg _ (by omega)
end
theorem first_none {c m : Nat} {b : List Stm} (h : okB c m b) : firstD c m (toDs b) = none := by
  obtain ⟨h1, h2, h3⟩ := h
  rw [firstD, itemsD_itF, ← List.append_nil (itF _ _ _), show 13 = (13 - cntL b) + cntL b by omega, ff_L b h1 (by rfl) (by omega) (by omega), show 13 - cntL b = (12 - cntL b) + 1 by omega]
  rfl
theorem lv_len {n : Nat} {xs : List PyData} (h : xs.length ≤ 10000) (g : fitAll xs n = true) : fit (.list xs) (n + 1) = true := by
  rw [fit, decide_eq_true h, g]; rfl
theorem lv_tup {n : Nat} {xs : List PyData} (h : xs.length ≤ 10000) (g : fitAll xs n = true) : fit (.tuple xs) (n + 1) = true := by
  rw [fit, decide_eq_true h, g]; rfl
theorem asc_from : ∀ (cs : List Nat) (lo c : Nat), cs.Pairwise (· < ·) → (∀ k ∈ cs, lo ≤ k ∧ k < c) → cs.length ≤ c - lo
  | [], lo, c, _, _ => Nat.zero_le _
  | a :: r, lo, c, h, g => by
    rw [List.pairwise_cons] at h
    have ga := g a (List.mem_cons_self ..)
    have := asc_from r (a + 1) c h.2 fun k hk => ⟨h.1 k hk, (g k (List.mem_cons_of_mem _ hk)).2⟩
    rw [List.length_cons]
    omega
theorem asc_len {c : Nat} {cs : List Nat} (h : asc c cs) : cs.length ≤ c := asc_from cs 0 c h.1 fun k hk => ⟨Nat.zero_le _, h.2 k hk⟩
mutual
theorem fit_S {c m : Nat} (hc : c ≤ 3) : ∀ (s : Stm) {lv n : Nat}, okS c m s lv → 3 * (3 - lv) + 3 ≤ n → fit (toD s) n = true
  | .set k r, lv, n, h, hn => by
    rw [okS] at h; rw [toD]
    obtain ⟨j, rfl⟩ : ∃ j, n = j + 2 := ⟨n - 2, by omega⟩
    refine lv_tup (by show 3 ≤ 10000; decide) ?_
    simp only [fitAll, fit, Bool.true_and, Bool.and_true]
    exact fit_LI (n := j) (by rw [h.2.1]; omega)
  | .carry r, lv, n, h, hn => by
    rw [okS] at h; rw [toD]
    obtain ⟨j, rfl⟩ : ∃ j, n = j + 2 := ⟨n - 2, by omega⟩
    refine lv_tup (by show 2 ≤ 10000; decide) ?_
    simp only [fitAll, fit, Bool.true_and, Bool.and_true]
    exact fit_LI (n := j) (by rw [h.1]; omega)
  | .keep cs b, lv, n, h, hn => by
    rw [okS] at h; rw [toD]
    obtain ⟨j, rfl⟩ : ∃ j, n = j + 2 := ⟨n - 2, by omega⟩
    refine lv_tup (by show 3 ≤ 10000; decide) ?_
    have h1 := fit_LI (l := cs.map (Nat.cast : Nat → Int)) (n := j) (by rw [List.length_map]; have := asc_len h.2.1; omega)
    have h2 := lv_len (n := j) (by rw [toDs_len]; omega) (fit_L hc b h.2.2.2 (by omega))
    have h5 : fit (.str "keep") (j + 1) = true := rfl
    rw [fitAll, fitAll, fitAll, fitAll, h5, h1, h2]; rfl
  | .again b, lv, n, h, hn => by
    rw [okS] at h; rw [toD]
    obtain ⟨j, rfl⟩ : ∃ j, n = j + 2 := ⟨n - 2, by omega⟩
    refine lv_tup (by show 2 ≤ 10000; decide) ?_
    have h2 := lv_len (n := j) (by rw [toDs_len]; omega) (fit_L hc b h.2.2 (by omega))
    have h5 : fit (.str "again") (j + 1) = true := rfl
    rw [fitAll, fitAll, fitAll, h5, h2]; rfl
  | .either a b, lv, n, h, hn => by
    rw [okS] at h; rw [toD]
    obtain ⟨j, rfl⟩ : ∃ j, n = j + 2 := ⟨n - 2, by omega⟩
    refine lv_tup (by show 3 ≤ 10000; decide) ?_
    have h1 := lv_len (n := j) (by rw [toDs_len]; omega) (fit_L hc a h.2.2.1 (by omega))
    have h2 := lv_len (n := j) (by rw [toDs_len]; omega) (fit_L hc b h.2.2.2.2 (by omega))
    have h5 : fit (.str "either") (j + 1) = true := rfl
    rw [fitAll, fitAll, fitAll, fitAll, h5, h1, h2]; rfl
  | .call p r a b, lv, n, h, hn => by
    rw [okS] at h; rw [toD]
    obtain ⟨j, rfl⟩ : ∃ j, n = j + 3 := ⟨n - 3, by omega⟩
    refine lv_tup (by show 4 ≤ 10000; decide) ?_
    have h1 := fit_LI (l := r) (n := j + 1) (by rw [h.2.2.1.1]; omega)
    have h2 := lv_len (n := j) (by rw [toDs_len]; omega) (fit_L hc a h.2.2.2.2.1 (by omega))
    have h3 := lv_len (n := j) (by rw [toDs_len]; omega) (fit_L hc b h.2.2.2.2.2.2 (by omega))
    have h4 : fit (.list [.list (toDs a), .list (toDs b)]) (j + 2) = true := lv_len (by show 2 ≤ 10000; decide) (by rw [fitAll, fitAll, fitAll, h2, h3]; rfl)
    have h5 : fit (.str "call") (j + 2) = true := rfl
    have h6 : fit (.int (p : Int)) (j + 2) = true := rfl
    rw [fitAll, fitAll, fitAll, fitAll, fitAll, h5, h6, h1, h4]; rfl
  | .fin w, lv, n, h, hn => by
    rw [toD]
    obtain ⟨j, rfl⟩ : ∃ j, n = j + 2 := ⟨n - 2, by omega⟩
    refine lv_tup (by show 2 ≤ 10000; decide) ?_
    rfl
theorem fit_L {c m : Nat} (hc : c ≤ 3) : ∀ (ss : List Stm) {lv n : Nat}, okL c m ss lv → 3 * (3 - lv) + 3 ≤ n → fitAll (toDs ss) n = true
  | [], lv, n, h, hn => by rw [toDs, fitAll]
  | s :: r, lv, n, h, hn => by
    rw [okL] at h
    rw [toDs, fitAll, fit_S hc s h.1 hn, fit_L hc r h.2 hn]; rfl
end
/-- the known words -/
def okWords (ok : Str → Prop) : Prop := ok "set" ∧ ok "carry" ∧ ok "keep" ∧ ok "either" ∧ ok "again" ∧ ok "call" ∧ ok "end"
theorem allWs_ints {ok : Str → Prop} : ∀ l : List Int, allWs ok (l.map PyData.int)
  | [] => by rw [List.map_nil, allWs]; trivial
  | i :: r => by
    rw [List.map_cons, allWs, allW]
    · exact ⟨trivial, allWs_ints r⟩
    all_goals (intro _ h; cases h)
mutual
theorem allW_S {ok : Str → Prop} (o : okWords ok) : ∀ s : Stm, allW ok (toD s)
  | .set k r => by
    rw [toD]
    simp only [allW, allWs, wordOk, and_true, true_and]
    exact ⟨o.1, allWs_ints r⟩
  | .carry r => by
    rw [toD]
    simp only [allW, allWs, wordOk, and_true, true_and]
    exact ⟨o.2.1, allWs_ints r⟩
  | .keep cs b => by
    rw [toD]
    simp only [allW, allWs, wordOk, and_true, true_and]
    exact ⟨o.2.2.1, allWs_ints _, allW_L o b⟩
  | .either a b => by
    rw [toD]
    simp only [allW, allWs, wordOk, and_true, true_and]
    exact ⟨o.2.2.2.1, allW_L o a, allW_L o b⟩
  | .again b => by
    rw [toD]
    simp only [allW, allWs, wordOk, and_true, true_and]
    exact ⟨o.2.2.2.2.1, allW_L o b⟩
  | .call p r a b => by
    rw [toD]
    simp only [allW, allWs, wordOk, and_true, true_and]
    exact ⟨o.2.2.2.2.2.1, allWs_ints r, allW_L o a, allW_L o b⟩
  | .fin w => by
    rw [toD]
    simp only [allW, allWs, wordOk, and_true, true_and]
    exact o.2.2.2.2.2.2
theorem allW_L {ok : Str → Prop} (o : okWords ok) : ∀ ss : List Stm, allWs ok (toDs ss)
  | [] => by rw [toDs, allWs]; trivial
  | s :: r => by
    rw [toDs, allWs]
    exact ⟨allW_S o s, allW_L o r⟩
end
theorem toB_ok {ok : Str → Prop} {c m : Nat} (o : okWords ok) {bs : List (List Stm)} (hl : bs.length = m) (m1 : 1 ≤ m) (m3 : m ≤ 3) (h : ∀ b ∈ bs, okB c m b) : okBodies ok c (bs.map bD) := by
  refine ⟨by rw [List.length_map]; omega, by rw [List.length_map]; omega, fun b hb => ?_⟩
  rw [List.mem_map] at hb
  obtain ⟨b, hb, rfl⟩ := hb
  refine ⟨toDs b, rfl, fun e he => allWs_mem (allW_L o b) he, ?_⟩
  rw [List.length_map, hl]
  exact first_none (h b hb)
theorem toB_fit {c m : Nat} (hc : c ≤ 3) {bs : List (List Stm)} (hl : bs.length ≤ 10000) (h : ∀ b ∈ bs, okB c m b) : fit (toB bs) 14 = true := by
  refine lv_len (by rw [List.length_map]; exact hl) ?_
  induction bs with
  | nil => rfl
  | cons b r ih =>
    have hb := h b (List.mem_cons_self ..)
    have g := lv_len (n := 12) (by rw [toDs_len]; have := hb.2.1; omega) (fit_L hc b hb.1 (by decide))
    rw [List.map_cons, fitAll, show fit (bD b) 13 = true from g, ih (by rw [List.length_cons] at hl; omega) fun b hb => h b (List.mem_cons_of_mem _ hb)]; rfl
/-! ### what the law compares may be compared -/
mutual
theorem fit_depth : ∀ (d : PyData) (n : Nat), fit d n = true → PyData.depth d ≤ n
  | .none, _, _ => by simp [PyData.depth]
  | .bool _, _, _ => by simp [PyData.depth]
  | .int _, _, _ => by simp [PyData.depth]
  | .str _, _, _ => by simp [PyData.depth]
  | .list xs, 0, h => by simp [fit] at h
  | .list xs, n + 1, h => by
    rw [fit, Bool.and_eq_true] at h
    have := fit_depthAll xs n h.2
    rw [PyData.depth]; omega
  | .tuple xs, 0, h => by simp [fit] at h
  | .tuple xs, n + 1, h => by
    rw [fit, Bool.and_eq_true] at h
    have := fit_depthAll xs n h.2
    rw [PyData.depth]; omega
  | .dict _, _, h => by simp [fit] at h
theorem fit_depthAll : ∀ (ds : List PyData) (n : Nat), fitAll ds n = true → PyData.depthAll ds ≤ n
  | [], _, _ => by simp [PyData.depthAll]
  | d :: ds, n, h => by
    rw [fitAll, Bool.and_eq_true] at h
    have h1 := fit_depth d n h.1
    have h2 := fit_depthAll ds n h.2
    rw [PyData.depthAll]; omega
end
theorem shaped_of {d : PyData} {n : Nat} (h : fit d n = true) (hn : n ≤ 64) (hl : d.canLay0 = true) : SeqAt.shaped d = true := by
  rw [SeqAt.shaped, hl, Bool.true_and, decide_eq_true_eq]
  have := fit_depth d n h
  omega
theorem canLay_ints : ∀ l : List Int, PyData.canLayAll0 (l.map PyData.int) = true
  | [] => by simp [PyData.canLayAll0]
  | i :: r => by
    rw [List.map_cons, PyData.canLayAll0, canLay_ints r, Bool.and_true]
    simp [PyData.canLay0]
theorem depth_ints : ∀ l : List Int, PyData.depthAll (l.map PyData.int) = 0
  | [] => by simp [PyData.depthAll]
  | i :: r => by
    rw [List.map_cons, PyData.depthAll, depth_ints r]
    simp [PyData.depth]
theorem lay_LI (l : List Int) : (LI l).canLay0 = true := by
  rw [PyData.canLay0]; exact canLay_ints l
mutual
theorem lay_S : ∀ s : Stm, (toD s).canLay0 = true
  | .set k r => by
    rw [toD, PyData.canLay0]
    simp only [PyData.canLayAll0, lay_LI, Bool.and_true]
    simp only [PyData.canLay0, Bool.and_true]
    decide +kernel
  | .carry r => by
    rw [toD, PyData.canLay0]
    simp only [PyData.canLayAll0, lay_LI, Bool.and_true]
    decide +kernel
  | .keep cs b => by
    rw [toD, PyData.canLay0]
    have hb := lay_L b
    have h1 : (PyData.list (toDs b)).canLay0 = true := by rw [PyData.canLay0]; exact hb
    simp only [PyData.canLayAll0, lay_LI, h1, Bool.and_true]
    decide +kernel
  | .either a b => by
    rw [toD, PyData.canLay0]
    have h1 : (PyData.list (toDs a)).canLay0 = true := by rw [PyData.canLay0]; exact lay_L a
    have h2 : (PyData.list (toDs b)).canLay0 = true := by rw [PyData.canLay0]; exact lay_L b
    simp only [PyData.canLayAll0, h1, h2, Bool.and_true]
    decide +kernel
  | .again b => by
    rw [toD, PyData.canLay0]
    have h2 : (PyData.list (toDs b)).canLay0 = true := by rw [PyData.canLay0]; exact lay_L b
    simp only [PyData.canLayAll0, h2, Bool.and_true]
    decide +kernel
  | .call p r a b => by
    rw [toD, PyData.canLay0]
    have h1 : (PyData.list (toDs a)).canLay0 = true := by rw [PyData.canLay0]; exact lay_L a
    have h2 : (PyData.list (toDs b)).canLay0 = true := by rw [PyData.canLay0]; exact lay_L b
    have h3 : (PyData.list [.list (toDs a), .list (toDs b)]).canLay0 = true := by rw [PyData.canLay0]; simp only [PyData.canLayAll0, h1, h2]; rfl
    simp only [PyData.canLayAll0, lay_LI, h3, Bool.and_true]
    simp only [PyData.canLay0, Bool.and_true]
    decide +kernel
  | .fin w => by
    rw [toD, PyData.canLay0]
    simp only [PyData.canLayAll0, PyData.canLay0, Bool.and_true]
    decide +kernel
theorem lay_L : ∀ ss : List Stm, PyData.canLayAll0 (toDs ss) = true
  | [] => by rw [toDs]; simp [PyData.canLayAll0]
  | s :: r => by rw [toDs, PyData.canLayAll0, lay_S s, lay_L r]; rfl
end
/-! ### own rules: len(x), x[i, j] by a class's own __len__ and __getitem__ -/
section
variable {X : Cx} {CX : CXT} {C f : Addr} {fd : FuncData} {ps : List Str} {sp : Sp} {E : XK} {k : Nat}
theorem env_in1 {pins : List (Addr × Obj)} {σ : L2.St} {H : Hp} {s : Shared} (I : Inv X pins σ H s) : Env0 X.prog X.w X.K X.mg X.base X.A.in1 X.stack s H :=
  have e := I.env0
  ⟨e.frames, e.mod, e.bs, e.bsz, e.funs, e.frf, e.hok, e.bare⟩
/-- the call of an own def, one step in -/
theorem run_in1 {pins : List (Addr × Obj)} {σ : L2.St} {H : Hp} {s : Shared} {Q : VK} {us : List Value} {vs : List V} (F : FnOk X.prog X.w X.K X.mg X.base CX k f fd ps sp) (hb : Binds X.K fd ps []) (hr : Room (k + 1) X.A) (hx : Passes CX X E) (I : Inv X pins σ H s) (r : Vals vs us) (h : sp vs H Q E) :
    wpAny (model X.prog X.w) X.A.in1 (call (.ref f) us) (EP X pins σ Q) X.xe s := by
  have hl := F.len _ _ _ _ h
  refine wpAny_call (codeAny_mono (F.run X.A.in1 X.stack s H ⟨us, []⟩ us vs _ E hr.in1 (env_in1 I) (by
    have := hb s us I.kIn (by rw [List.append_nil, ← r.length]; exact hl)
    simpa using this) r h) fun r s' hq => ?_)
  cases r with
  | error e => exact hx pins σ H s e s' I hq
  | ok fl =>
    cases fl with
    | ret w => exact I.after hq
    | next => exact False.elim hq
    | brk => exact False.elim hq
    | cont => exact False.elim hq
theorem call_lenOwn (F : FnOk X.prog X.w X.K X.mg X.base CX k f fd ps sp) (hs : PySem.W.findIn X.K (.ref C) "__len__" = some (some (.ref f))) (hf : PySem.W.isFn X.K (.ref f) = true) (hb : Binds X.K fd ps []) (hr : Room (k + 1) X.A) (hx : Passes CX X E) :
    CallR X (.builtin "len") (fun xs H Q => ∃ a dx fs, xs = [.ref a] ∧ H a = some (.ins C dx fs) ∧ sp [.ref a] H (fun v H' => ∃ n : Nat, n < 4611686018427387904 ∧ v = .int (n : Int) ∧ Q (.int (n : Int)) H') E) := by
  intro pins s σ H xs us Q I r h
  obtain ⟨a, dx, fs, rfl, ha, hsp⟩ := h
  obtain ⟨u, rfl, ru⟩ := vals1 r
  obtain rfl : u = Value.ref a := ru
  obtain ⟨mA, J, _⟩ := ins_get I.hok ha
  obtain ⟨od, J, _⟩ := J.look
  obtain ⟨m, hF⟩ := I.fr
  refine PySem.W.len_K hF I.ok.mod.kin J hs hf (wpAny_mono (run_in1 F hb hr hx I (show Vals [V.ref a] [Value.ref a] from .cons rfl .nil) hsp) (fun v s' hq => ?_) fun _ _ x => x)
  obtain ⟨z, H', I', rz, n, hn, rfl, q⟩ := hq
  obtain ⟨t, rfl⟩ := rz
  exact ⟨⟨by omega, by omega⟩, .int n, H', I'.tok _, ⟨_, rfl⟩, q⟩
/-- a[b] by the class's own __getitem__ -/
theorem pe_ixOwn {a b : Expr} {ta tb : TE} {pos : Pos} (F : FnOk X.prog X.w X.K X.mg X.base CX k f fd ps sp) (hs : PySem.W.findIn X.K (.ref C) "__getitem__" = some (some (.ref f))) (hfn : PySem.W.fnIn X.K f = true) (hf : PySem.W.isFn X.K (.ref f) = true) (hb : Binds X.K fd ps []) (hr : Room (k + 1) X.A) (hx : Passes CX X E)
    (ha : PE X a ta) (hbb : PE X b tb) (hsl : ∀ x i, subscripted b true (.ref x) i = runValue (.builtin "lifetime.subscript" ⟨[.ref x, i], []⟩)) :
    PE X (.Subscript a b pos) (fun σ H Q => ta σ H fun x H1 => tb σ H1 fun y H2 => ∃ p dx fs, x = .ref p ∧ H2 p = some (.ins C dx fs) ∧ sp [.ref p, y] H2 Q E) := by
  refine ⟨fun pins s σ H Q I h => ?_⟩
  refine Subscript_ (binT ha hbb I h fun v u s2 x y H2 I2 rx ry q => ?_)
  obtain ⟨p, dx, fs, rfl, hp, hsp⟩ := q
  cases rx
  obtain ⟨mA, J, _⟩ := ins_get I2.hok hp
  obtain ⟨od, J, _⟩ := J.look
  obtain ⟨m, hF⟩ := I2.fr
  exact PySem.W.sub_K hF I2.ok.mod.kin J hs hfn hf (run_in1 F hb hr hx I2 (show Vals [V.ref p, y] [Value.ref p, u] from .cons rfl (.cons ry .nil)) hsp) (hsl _ _)
end
section
variable {X : Cx} {CX : CXT} {C f : Addr} {fd : FuncData} {ps : List Str} {sp : Sp} {E : XK} {k : Nat}
/-- x == y by the class's own __eq__, whatever it tells -/
theorem op_eqOwn (F : FnOk X.prog X.w X.K X.mg X.base CX k f fd ps sp) (hs : PySem.W.findIn X.K (.ref C) "__eq__" = some (some (.ref f))) (hf : PySem.W.isFn X.K (.ref f) = true) (hb : Binds X.K fd ps []) (hr : Room k X.A) (hx : Passes CX X E) :
    OpR X (compareOp .Eq) (fun x y H Q => ∃ a b dx dy fs gs, x = .ref a ∧ y = .ref b ∧ H a = some (.ins C dx fs) ∧ H b = some (.ins C dy gs) ∧ sp [.ref a, .ref b] H (fun v H' => ∃ t, v = .bl t ∧ Q (.bl t) H') E) := by
  intro pins s σ H x y v u Q I rx ry hq
  obtain ⟨a, b, dx, dy, fs, gs, rfl, rfl, ha, hb', hsp⟩ := hq
  cases rx
  cases ry
  obtain ⟨mA, J, _⟩ := ins_get I.hok ha
  obtain ⟨mB, J', _⟩ := ins_get I.hok hb'
  obtain ⟨od, J, _⟩ := J.look
  obtain ⟨od', J', _⟩ := J'.look
  obtain ⟨m, hF⟩ := I.fr
  show wpAny (model X.prog X.w) X.A (richCompare .Eq (.ref a) (.ref b)) (EP X pins σ Q) X.xe s
  have r2 : Vals [V.ref a, V.ref b] [Value.ref a, Value.ref b] := .cons rfl (.cons rfl .nil)
  refine PySem.W.cmp_K (op := .Eq) (tb := .ref C) hr.units0 hF I.ok.mod.kin J J'.type (by simp [PySem.W.notFirst]) hs hf (wpAny_mono (run_fn (dvs := []) F hr hb .nil hx I r2 hsp) (fun v s' hq => ?_) fun _ _ x => x)
  obtain ⟨z, H', I', rz, t, rfl, q⟩ := hq
  cases rz
  exact ⟨.bl t, H', I', rfl, q⟩
end
/-! ### the seven words -/
def ok7 (x : Str) : Prop := x = Str.ofString "set" ∨ x = Str.ofString "carry" ∨ x = Str.ofString "keep" ∨ x = Str.ofString "either" ∨ x = Str.ofString "again" ∨ x = Str.ofString "call" ∨ x = Str.ofString "end"
theorem ok7_words : okWords ok7 := ⟨.inl rfl, .inr (.inl rfl), .inr (.inr (.inl rfl)), .inr (.inr (.inr (.inl rfl))), .inr (.inr (.inr (.inr (.inl rfl)))), .inr (.inr (.inr (.inr (.inr (.inl rfl))))), .inr (.inr (.inr (.inr (.inr (.inr rfl)))))⟩
theorem sizes7 {K : PySem.W.Frag} {w : World} {a : Addr} {es : Array DictEntry} {n : Nat} {t0 t1 t2 t3 t4 t5 t6 : Tok} (d : KDict K w a es n) (h0 : PySem.W.nsIn K a "set" = some (some (.int 3 t0))) (h1 : PySem.W.nsIn K a "carry" = some (some (.int 2 t1))) (h2 : PySem.W.nsIn K a "keep" = some (some (.int 3 t2)))
    (h3 : PySem.W.nsIn K a "either" = some (some (.int 3 t3))) (h4 : PySem.W.nsIn K a "again" = some (some (.int 2 t4))) (h5 : PySem.W.nsIn K a "call" = some (some (.int 4 t5))) (h6 : PySem.W.nsIn K a "end" = some (some (.int 2 t6))) : Sizes K w a es n ok7 := by
  obtain ⟨z0, z1, z2, z3, z4, z5, z6⟩ := szw
  refine ⟨d, fun x m hx hm => ?_, fun x hx hm => ?_⟩
  · rcases hx with rfl | rfl | rfl | rfl | rfl | rfl | rfl
    · cases z0.symm.trans hm; exact ⟨_, h0⟩
    · cases z1.symm.trans hm; exact ⟨_, h1⟩
    · cases z2.symm.trans hm; exact ⟨_, h2⟩
    · cases z3.symm.trans hm; exact ⟨_, h3⟩
    · cases z4.symm.trans hm; exact ⟨_, h4⟩
    · cases z5.symm.trans hm; exact ⟨_, h5⟩
    · cases z6.symm.trans hm; exact ⟨_, h6⟩
  · rcases hx with rfl | rfl | rfl | rfl | rfl | rfl | rfl
    · cases z0.symm.trans hm
    · cases z1.symm.trans hm
    · cases z2.symm.trans hm
    · cases z3.symm.trans hm
    · cases z4.symm.trans hm
    · cases z5.symm.trans hm
    · cases z6.symm.trans hm
/-! ### the methods that only read -/
section
variable {P : Program} {w : World} {K : PySem.W.Frag} {mg : Str → Option Value} {base : Heap} {σ : L2.St} {H H' H0 : Hp}
/-- what a book's object holds -/
def BkO (C : Addr) (H : Hp) (x : Addr) (c : Nat) (v : V) : Prop := ∃ dx, H x = some (.ins C dx [("_cells", .int (c : Int)), ("_bodies", v)])
def spBkCells (C : Addr) : Sp := fun vs H Q _ => ∃ (x : Addr) (c : Nat) (v : V), vs = [.ref x] ∧ BkO C H x c v ∧ ∀ H', Ex H H' → Q (.int (c : Int)) H'
def spLen (K : PySem.W.Frag) (C : Addr) : Sp := fun vs H Q _ => ∃ (x : Addr) (c : Nat) (b : Addr) (xs : List V), vs = [.ref x] ∧ BkO C H x c (.ref b) ∧ SqL K H b xs ∧ ∀ H', Ex H H' → Q (.int (xs.length : Int)) H'
def spBds (K : PySem.W.Frag) (C : Addr) (cn : Nat) : Sp := fun vs H Q _ => ∃ (x : Addr) (c : Nat) (v : V) (d : PyData) (n : Nat), vs = [.ref x] ∧ BkO C H x c v ∧ Dp K H v d ∧ fit d n = true ∧ cn = n + 1 ∧ ∀ v' H', Ex H H' → Dq (New H) H' v' d → Q v' H'
theorem ev_fld {C : Addr} {te : TE} {f : Str} {x dx : Addr} {fs : List (Str × V)} {v : V} (hc : Cls K C) (nf : NoAttr K C f) (h : Ev te σ H (.ref x)) (hx : H x = some (.ins C dx fs)) (hv : fs.lookup f = some v) : Ev (tFld K te f) σ H v := fun H1 e Q q =>
  h H1 e _ fun H2 e2 => ⟨x, C, dx, fs, v, rfl, e2 _ _ (e _ _ hx), hc, nf, hv, q H2 e2⟩
theorem ok_cells_told {C f : Addr} {fd : FuncData} {k : Nat} (F : Fun K "cells" "Book.cells" sBook_cells f fd) (hc : Cls K C) (n1 : NoAttr K C "_cells") : FnOk P w K mg base CX0 (k + 1) f fd ["self"] (spBkCells C) := by
  have sc := scBook_cells
  refine F.ok sc (fun vs H Q E h => ?_) (fun cdv A outer s H vs Q E hr h => ?_)
  · obtain ⟨x, c, v, rfl, _⟩ := h
    rfl
  · obtain ⟨x, c, v, rfl, ⟨dx, hx⟩, q⟩ := h
    refine ⟨_, (pss_one (ps_ret (pe_fld (pv 0) rfl))), ?_⟩
    exact s_ret (ev_fld hc n1 (ev_var rfl) hx rfl) fun H1 e1 => q H1 e1
theorem ok_len {C f : Addr} {fd : FuncData} {k : Nat} (F : Fun K "__len__" "Book.__len__" sBook___len__ f fd) (hc : Cls K C) (n2 : NoAttr K C "_bodies") (z_len : mg "len" = none) : FnOk P w K mg base CX0 (k + 1) f fd ["self"] (spLen K C) := by
  have sc := scBook___len__
  refine F.ok sc (fun vs H Q E h => ?_) (fun cdv A outer s H vs Q E hr h => ?_)
  · obtain ⟨x, c, b, xs, rfl, _⟩ := h
    rfl
  · obtain ⟨x, c, b, xs, rfl, ⟨dx, hx⟩, hb, q⟩ := h
    refine ⟨_, (pss_one (ps_ret (pe_callB call_len_seq (by rfl) z_len (by decide +kernel) (pa_cons (pe_fld (pv 0) rfl) pa_nil)))), ?_⟩
    exact s_ret (ev_lenS (ev_fld hc n2 (ev_var rfl) hx rfl) (.inl hb)) fun H1 e1 => q H1 e1
theorem ok_bodies_told {C f : Addr} {fd : FuncData} {k cn : Nat} (F : Fun K "bodies" "Book.bodies" sBook_bodies f fd) (hc : Cls K C) (n2 : NoAttr K C "_bodies") (Ccopied : Cal P w K mg base cn "copied" (spCopy K cn) []) (hcn : cn ≤ k) : FnOk P w K mg base CX0 (k + 1) f fd ["self"] (spBds K C cn) := by
  have sc := scBook_bodies
  refine F.ok sc (fun vs H Q E h => ?_) (fun cdv A outer s H vs Q E hr h => ?_)
  · obtain ⟨x, c, v, d, n, rfl, _⟩ := h
    rfl
  · obtain ⟨x, c, v, d, n, rfl, ⟨dx, hx⟩, hd, hf, hn, q⟩ := h
    refine ⟨_, (pss_one (ps_ret (pe_c Ccopied hr (by omega) (by rfl) (pa_cons (pe_fld (pv 0) rfl) pa_nil)))), ?_⟩
    refine s_retR (cp_call hn (ev_fld hc n2 (ev_var rfl) hx rfl) hd hf H (Ex.refl H) _ fun v' H1 e1 hq => q v' H1 e1 hq)
end
/-! ### book == other -/
section
variable {P : Program} {w : World} {K : PySem.W.Frag} {mg : Str → Option Value} {base : Heap} {σ : L2.St} {H H' H0 : Hp}
def spEqB (K : PySem.W.Frag) (C : Addr) : Sp := fun vs H Q _ => ∃ (x y : Addr) (c c' : Nat) (v v' : V) (d d' : PyData), vs = [.ref x, .ref y] ∧ BkO C H x c v ∧ BkO C H y c' v' ∧ Dp K H v d ∧ Dp K H v' d' ∧ SeqAt.shaped d = true ∧ SeqAt.shaped d' = true ∧ ∀ H', Ex H H' → Q (.bl (decide (c = c') && PyData.eqv d d')) H'
theorem ok_eq {C f : Addr} {fd : FuncData} {k : Nat} (F : Fun K "__eq__" "Book.__eq__" sBook___eq__ f fd) (hc : Cls K C) (n1 : NoAttr K C "_cells") (n2 : NoAttr K C "_bodies") (z_isinstance : mg "isinstance" = none) (c_Book : mg "Book" = some (.ref C)) (hkit : PySem.W.kitOne K (.ref C) (.ref C) = some true) (hty : ∀ (H : Hp) (y dx : Addr) (fs : List (Str × V)), H y = some (.ins C dx fs) → TyX K H (.ref y) (.ref C)) : FnOk P w K mg base CX0 (k + 1) f fd ["self", "other"] (spEqB K C) := by
  have sc := scBook___eq__
  refine F.ok sc (fun vs H Q E h => ?_) (fun cdv A outer s H vs Q E hr h => ?_)
  · obtain ⟨x, y, c, c', v, v', d, d', rfl, _⟩ := h
    rfl
  · obtain ⟨x, y, c, c', v, v', d, d', rfl, ⟨dx, hx⟩, ⟨dy, hy⟩, hd, hd', sd, sd', q⟩ := h
    refine ⟨_, (pss_one (ps_ret (pe_and (pe_callB call_isi (by rfl) z_isinstance (by decide +kernel) (pa_cons (pv 1) (pa_cons (pe_glob (v := .ref C) (by rfl) c_Book rfl) pa_nil))) (pe_and (pe_cmpR op_eq (pe_fld (pv 0) rfl) (pe_fld (pv 1) rfl) (nomark _)) (pe_one (pe_cmpR (op_eqD hr.units) (pe_fld (pv 0) rfl) (pe_fld (pv 1) rfl) (nomark _))))))), ?_⟩
    refine s_ret (ev_andV (a := true) (b := decide (c = c') && PyData.eqv d d') ?_ fun _ => ev_andV ?_ fun _ => ?_) fun H1 e1 => ?_
    · exact fun H1 e1 Q q => ⟨.ref y, rfl, .ref y, .ref C, .ref C, .ref C, true, rfl, .own C, hty _ _ _ _ (e1 _ _ hy), hkit, q H1 (Ex.refl H1)⟩
    · refine ev_is (ev_op (ev_fld hc n1 (ev_var rfl) hx rfl) (ev_fld hc n1 (ev_var rfl) hy rfl) (rv_eq rfl)) ?_
      have : (V.int (c : Int) = V.int (c' : Int)) ↔ c = c' := ⟨fun h => by have := V.int.inj h; omega, fun h => by rw [h]⟩
      rw [decide_eq_decide.mpr this]
    · exact ev_op (ev_fld hc n2 (ev_var rfl) hx rfl) (ev_fld hc n2 (ev_var rfl) hy rfl) (rv_val fun H1 e1 Q q => ⟨d, d', dp_ex e1 _ _ hd, dp_ex e1 _ _ hd', sd, sd', q⟩)
    · exact q H1 e1
end
/-! ### data whose lists and tuples stand each at one place -/
mutual
inductive Dt (H : Hp) : (Addr → Prop) → V → PyData → Prop
  | non {N : Addr → Prop} : Dt H N .non .none
  | bl {N : Addr → Prop} (b : Bool) : Dt H N (.bl b) (.bool b)
  | int {N : Addr → Prop} (i : Int) : Dt H N (.int i) (.int i)
  | str {N : Addr → Prop} (x : Str) : Dt H N (.str x) (.str x)
  | lst {N M : Addr → Prop} {a : Addr} {xs : List V} {ds : List PyData} : N a → H a = some (.lst xs) → DtAll H M xs ds → (∀ b, M b → N b ∧ b ≠ a) → Dt H N (.ref a) (.list ds)
  | tup {N M : Addr → Prop} {a : Addr} {xs : List V} {ds : List PyData} : N a → H a = some (.tup xs) → DtAll H M xs ds → (∀ b, M b → N b ∧ b ≠ a) → Dt H N (.ref a) (.tuple ds)
inductive DtAll (H : Hp) : (Addr → Prop) → List V → List PyData → Prop
  | nil {N : Addr → Prop} : DtAll H N [] []
  | cons {N M1 M2 : Addr → Prop} {v : V} {vs : List V} {d : PyData} {ds : List PyData} : Dt H M1 v d → DtAll H M2 vs ds → (∀ b, M1 b → N b) → (∀ b, M2 b → N b) → (∀ b, M1 b → ¬ M2 b) → DtAll H N (v :: vs) (d :: ds)
end
section
variable {H H' : Hp} {K : PySem.W.Frag}
mutual
theorem dt_to : ∀ (d : PyData) (v : V) (N N' : Addr → Prop), (∀ a, N a → N' a) → (∀ a o, N a → H a = some o → H' a = some o) → Dt H N v d → Dt H' N' v d
  | .none, _, _, _, _, _, x => by cases x; exact .non
  | .bool _, _, _, _, _, _, x => by cases x; exact .bl _
  | .int _, _, _, _, _, _, x => by cases x; exact .int _
  | .str _, _, _, _, _, _, x => by cases x; exact .str _
  | .list ds, _, N, N', h, k, x => by
    cases x with
    | @lst N M a xs _ n s y m => exact .lst (h _ n) (k _ _ n s) (dta_to ds _ M M (fun _ z => z) (fun b o z e => k b o (m b z).1 e) y) fun b z => ⟨h _ (m b z).1, (m b z).2⟩
  | .tuple ds, _, N, N', h, k, x => by
    cases x with
    | @tup N M a xs _ n s y m => exact .tup (h _ n) (k _ _ n s) (dta_to ds _ M M (fun _ z => z) (fun b o z e => k b o (m b z).1 e) y) fun b z => ⟨h _ (m b z).1, (m b z).2⟩
  | .dict _, _, _, _, _, _, x => by cases x
theorem dta_to : ∀ (ds : List PyData) (vs : List V) (N N' : Addr → Prop), (∀ a, N a → N' a) → (∀ a o, N a → H a = some o → H' a = some o) → DtAll H N vs ds → DtAll H' N' vs ds
  | [], _, _, _, _, _, x => by cases x; exact .nil
  | d :: ds, _, N, N', h, k, x => by
    cases x with
    | @cons N M1 M2 v vs _ _ a b m1 m2 dj => exact .cons (dt_to d _ M1 M1 (fun _ z => z) (fun c o z e => k c o (m1 c z) e) a) (dta_to ds _ M2 M2 (fun _ z => z) (fun c o z e => k c o (m2 c z) e) b) (fun c z => h _ (m1 c z)) (fun c z => h _ (m2 c z)) dj
end
mutual
theorem dt_dq : ∀ (d : PyData) (v : V) (N : Addr → Prop), Dt H N v d → Dq N H v d
  | .none, _, _, x => by cases x; exact .non
  | .bool _, _, _, x => by cases x; exact .bl _
  | .int _, _, _, x => by cases x; exact .int _
  | .str _, _, _, x => by cases x; exact .str _
  | .list ds, _, N, x => by
    cases x with
    | @lst N M a xs _ n s y m => exact .lst n s (dqa_to (fun b z => (m b z).1) (fun _ _ _ e => e) _ _ (dta_dqa ds _ M y))
  | .tuple ds, _, N, x => by
    cases x with
    | @tup N M a xs _ n s y m => exact .tup n s (dqa_to (fun b z => (m b z).1) (fun _ _ _ e => e) _ _ (dta_dqa ds _ M y))
  | .dict _, _, _, x => by cases x
theorem dta_dqa : ∀ (ds : List PyData) (vs : List V) (N : Addr → Prop), DtAll H N vs ds → DqAll N H vs ds
  | [], _, _, x => by cases x; exact .nil
  | d :: ds, _, N, x => by
    cases x with
    | @cons N M1 M2 v vs _ _ a b m1 m2 dj => exact .cons (dq_to m1 (fun _ _ _ e => e) _ _ (dt_dq d _ M1 a)) (dqa_to m2 (fun _ _ _ e => e) _ _ (dta_dqa ds _ M2 b))
end
/-! only what is there counts -/
mutual
theorem dt_dom : ∀ (d : PyData) (v : V) (N : Addr → Prop), Dt H N v d → Dt H (fun a => N a ∧ ∃ o, H a = some o) v d
  | .none, _, _, x => by cases x; exact .non
  | .bool _, _, _, x => by cases x; exact .bl _
  | .int _, _, _, x => by cases x; exact .int _
  | .str _, _, _, x => by cases x; exact .str _
  | .list ds, _, N, x => by
    cases x with
    | @lst N M a xs _ n s y m => exact .lst ⟨n, _, s⟩ s (dta_dom ds _ M y) fun b z => ⟨⟨(m b z.1).1, z.2⟩, (m b z.1).2⟩
  | .tuple ds, _, N, x => by
    cases x with
    | @tup N M a xs _ n s y m => exact .tup ⟨n, _, s⟩ s (dta_dom ds _ M y) fun b z => ⟨⟨(m b z.1).1, z.2⟩, (m b z.1).2⟩
  | .dict _, _, _, x => by cases x
theorem dta_dom : ∀ (ds : List PyData) (vs : List V) (N : Addr → Prop), DtAll H N vs ds → DtAll H (fun a => N a ∧ ∃ o, H a = some o) vs ds
  | [], _, _, x => by cases x; exact .nil
  | d :: ds, _, N, x => by
    cases x with
    | @cons N M1 M2 v vs _ _ a b m1 m2 dj => exact .cons (dt_dom d _ M1 a) (dta_dom ds _ M2 b) (fun c z => ⟨m1 c z.1, z.2⟩) (fun c z => ⟨m2 c z.1, z.2⟩) fun c z z2 => dj c z.1 z2.1
end
theorem dta_len : ∀ {N : Addr → Prop} {vs : List V} {ds : List PyData}, DtAll H N vs ds → vs.length = ds.length
  | _, _, _, .nil => rfl
  | _, _, _, .cons _ b _ _ _ => by rw [List.length_cons, List.length_cons, dta_len b]
theorem dta_snoc : ∀ {N M P : Addr → Prop} {vs : List V} {ds : List PyData} {v : V} {d : PyData}, DtAll H N vs ds → Dt H M v d → (∀ b, N b → P b) → (∀ b, M b → P b) → (∀ b, N b → ¬ M b) → DtAll H P (vs ++ [v]) (ds ++ [d])
  | N, M, P, _, _, v, d, .nil, h, n, m, dj => .cons (M2 := fun _ => False) h .nil m (fun _ z => z.elim) fun _ _ z => z
  | N, M, P, _, _, v, d, .cons (M1 := M1) (M2 := M2) a b m1 m2 dj0, h, n, m, dj =>
    .cons (M2 := fun c => M2 c ∨ M c) a (dta_snoc b h (fun c z => .inl z) (fun c z => .inr z) fun c z => dj c (m2 c z)) (fun c z => n c (m1 c z)) (fun c z => z.elim (fun z => n c (m2 c z)) (m c)) fun c z z2 => z2.elim (dj0 c z) (dj c (m1 c z))
/-- one item, and what stands if it alone changes -/
theorem dta_at : ∀ {N : Addr → Prop} {vs : List V} {ds : List PyData} {i : Nat} {v : V}, DtAll H N vs ds → vs[i]? = some v → ∃ (d : PyData) (M : Addr → Prop), ds[i]? = some d ∧ (∀ b, M b → N b) ∧ Dt H M v d ∧
    ∀ (H' : Hp) (d' : PyData), (∀ a o, ¬ M a → H a = some o → H' a = some o) → Dt H' M v d' → DtAll H' N vs (ds.set i d')
  | N, _, _, 0, v, .cons (M1 := M1) (M2 := M2) (d := d) (ds := ds) a b m1 m2 dj, h => by
    have := Option.some.inj h
    subst this
    exact ⟨d, M1, rfl, m1, a, fun H' d' k x => .cons x (dta_to ds _ M2 M2 (fun _ z => z) (fun c o z e => k c o (fun z2 => dj c z2 z) e) b) m1 m2 dj⟩
  | N, _, _, i + 1, v, .cons (M1 := M1) (M2 := M2) (d := d) (ds := ds) a b m1 m2 dj, h => by
    obtain ⟨d1, M, h1, h2, h3, h4⟩ := dta_at (i := i) b (by simpa using h)
    exact ⟨d1, M, by simpa using h1, fun c z => m2 c (h2 c z), h3, fun H' d' k x => .cons (dt_to d _ M1 M1 (fun _ z => z) (fun c o z e => k c o (fun z2 => dj c z (h2 c z2)) e) a) (h4 H' d' k x) m1 m2 dj⟩
end
/-! ### copies, each of whose lists stands at one place -/
section
variable {K : PySem.W.Frag} {σ : L2.St} {H : Hp} {te tl : TE}
def CpAtT (te : TE) (σ : L2.St) (H : Hp) (d : PyData) : Prop := ∀ H1, Ex H H1 → ∀ Q : VK, (∀ v' H2, Ex H1 H2 → Dt H2 (New H1) v' d → Q v' H2) → te σ H1 Q
def CpOutT (H1 : Hp) (ds : List PyData) (Q : VK) : Prop := ∀ D ys H2, H1 D = none → Ex H1 H2 → H2 D = some (.lst ys) → DtAll H2 (fun a => New H1 a ∧ a ≠ D) ys ds → Q (.ref D) H2
theorem copyT_turn {H1 H' : Hp} {D : Addr} {ys : List V} {ds : List PyData} {i : Nat} {d : PyData} {σ' : L2.St} {Nx : Hp → Prop} (hD : H1 D = none) (e : Ex H1 H') (hD' : H' D = some (.lst ys)) (hd : DtAll H' (fun a => New H1 a ∧ a ≠ D) ys (ds.take i)) (hl : ds.length ≤ 10000) (hi : ds[i]? = some d)
    (hc : CpAtT te σ' H' d) (k : ∀ ys2 H2, Ex H1 H2 → H2 D = some (.lst ys2) → DtAll H2 (fun a => New H1 a ∧ a ≠ D) ys2 (ds.take (i + 1)) → Nx H2) :
    te σ' H' fun y H4 => ∃ acc, H4 D = some (.lst acc) ∧ acc.length < sizeLine ∧ Nx (upd H4 D (.lst (acc ++ [y]))) := by
  refine hc H' (Ex.refl _) _ fun v' H2 e2 dq => ⟨ys, e2 _ _ hD', ?_, k (ys ++ [v']) _ ((e.trans e2).mut hD) upd_same ?_⟩
  · rw [dta_len hd, List.length_take]; exact sz_lt (by omega)
  · rw [List.take_add_one, hi]
    refine dta_snoc (N := fun a => (New H1 a ∧ a ≠ D) ∧ ∃ o, H' a = some o) (M := fun a => New H' a) (dta_to _ _ _ _ (fun _ z => z) (fun a o n ha => by rw [upd_ne n.1.2]; exact e2 _ _ ha) (dta_dom _ _ _ hd)) (dt_to _ _ _ _ (fun _ z => z) (fun a o n ha => by rw [upd_ne (new_ne n ⟨_, hD'⟩)]; exact ha) dq) (fun b z => z.1) (fun b z => ⟨new_ex e z, new_ne z ⟨_, hD'⟩⟩) fun b z z2 => ?_
    obtain ⟨o, ho⟩ := z.2
    have z2 : H' b = none := z2
    rw [ho] at z2; cases z2
theorem lc_copyLT {a : Addr} {xs : List V} {ds : List PyData} {j : Nat} {vs : List Nat} (h : Ev tl σ H (.ref a)) (hs : SqL K H a xs) (hlen : xs.length = ds.length) (hl : ds.length ≤ 10000) (hw : ∀ x, wipe ((wipe σ vs).set j (some x)) vs = wipe σ vs)
    (hc : ∀ (i : Nat) (v : V) (d : PyData), xs[i]? = some v → ds[i]? = some d → CpAtT te ((wipe σ vs).set j (some v)) H d) {Q : VK} (k : CpOutT H ds Q) : tLc (iList K tl) (gName j) tYes te vs σ H Q :=
  h H (Ex.refl H) _ fun H1 e1 => ⟨a, rfl, ⟨xs, ex_l e1 hs⟩, fun D hD =>
    lc_list (xs := xs) (fun i H' => ∃ ys, Ex H1 H' ∧ H' D = some (.lst ys) ∧ DtAll H' (fun a => New H1 a ∧ a ≠ D) ys (ds.take i)) ⟨[], Ex.new hD, upd_same, .nil⟩ (fun i H' _ p => by
        obtain ⟨ys, e, _⟩ := p
        exact ex_l (e1.trans e) hs) (fun i x H' hi p => ⟨hw x, by
        obtain ⟨ys, e, hd, dq⟩ := p
        have hi2 : i < ds.length := by have := (List.getElem?_eq_some_iff.mp hi).1; omega
        have hdi := List.getElem?_eq_getElem hi2
        show te _ _ _
        exact copyT_turn (Nx := fun H' => ∃ ys, Ex H1 H' ∧ H' D = some (.lst ys) ∧ DtAll H' (fun a => New H1 a ∧ a ≠ D) ys (ds.take (i + 1))) hD e hd dq hl hdi (fun H2 e2 => hc i x _ hi hdi H2 ((e1.trans e).trans e2)) fun ys2 H2 a b c => ⟨ys2, a, b, c⟩⟩)
      (fun H' p => by
        obtain ⟨ys, e, hd, dq⟩ := p
        rw [List.take_of_length_le (by omega)] at dq
        exact k D ys H' (fresh_back e1 hD) (e1.trans e) hd (dta_to _ _ _ _ (fun a n => ⟨new_ex e1 n.1, n.2⟩) (fun _ _ _ h => h) dq))⟩
theorem lc_copyTT {a : Addr} {xs : List V} {ds : List PyData} {j : Nat} {vs : List Nat} (h : Ev tl σ H (.ref a)) (hs : SqT K H a xs) (hlen : xs.length = ds.length) (hl : ds.length ≤ 10000) (hw : ∀ x, wipe ((wipe σ vs).set j (some x)) vs = wipe σ vs)
    (hc : ∀ (i : Nat) (v : V) (d : PyData), xs[i]? = some v → ds[i]? = some d → CpAtT te ((wipe σ vs).set j (some v)) H d) {Q : VK} (k : CpOutT H ds Q) : tLc (iTup K tl) (gName j) tYes te vs σ H Q :=
  h H (Ex.refl H) _ fun H1 e1 => ⟨a, rfl, ⟨xs, ex_t e1 hs⟩, fun D hD =>
    lc_tup (xs := xs) (fun i H' => ∃ ys, Ex H1 H' ∧ H' D = some (.lst ys) ∧ DtAll H' (fun a => New H1 a ∧ a ≠ D) ys (ds.take i)) ⟨[], Ex.new hD, upd_same, .nil⟩ (fun i H' _ p => by
        obtain ⟨ys, e, _⟩ := p
        exact ex_t (e1.trans e) hs) (fun i x H' hi p => ⟨hw x, by
        obtain ⟨ys, e, hd, dq⟩ := p
        have hi2 : i < ds.length := by have := (List.getElem?_eq_some_iff.mp hi).1; omega
        have hdi := List.getElem?_eq_getElem hi2
        show te _ _ _
        exact copyT_turn (Nx := fun H' => ∃ ys, Ex H1 H' ∧ H' D = some (.lst ys) ∧ DtAll H' (fun a => New H1 a ∧ a ≠ D) ys (ds.take (i + 1))) hD e hd dq hl hdi (fun H2 e2 => hc i x _ hi hdi H2 ((e1.trans e).trans e2)) fun ys2 H2 a b c => ⟨ys2, a, b, c⟩⟩)
      (fun H' p => by
        obtain ⟨ys, e, hd, dq⟩ := p
        rw [List.take_of_length_le (by omega)] at dq
        exact k D ys H' (fresh_back e1 hD) (e1.trans e) hd (dta_to _ _ _ _ (fun a n => ⟨new_ex e1 n.1, n.2⟩) (fun _ _ _ h => h) dq))⟩
def spCopyT (K : PySem.W.Frag) (n : Nat) : Sp := fun vs H Q _ => ∃ (v : V) (d : PyData) (m : Nat), vs = [v] ∧ n = m + 1 ∧ Dp K H v d ∧ fit d m = true ∧ ∀ v' H', Ex H H' → Dt H' (New H) v' d → Q v' H'
theorem cpT_call {E : XK} {ti : TE} {n m : Nat} {v : V} {d : PyData} (hn : n = m + 1) (h : Ev ti σ H v) (hd : Dp K H v d) (hf : fit d m = true) : CpAtT (tCall (spCopyT K n) [] E (tCons ti tNil)) σ H d := fun H1 e Q q =>
  h H1 e _ fun H2 e2 => ⟨v, d, m, rfl, hn, dp_ex (e.trans e2) d v hd, hf, fun v' H3 e3 dq => q v' H3 (e2.trans e3) (dt_to _ _ _ _ (fun a n => new_ex e2 n) (fun _ _ _ h => h) dq)⟩
theorem flat_dt {v : V} {d : PyData} {N : Addr → Prop} (h : Dp K H v d) (h1 : isa d "list" = false) (h2 : isa d "tuple" = false) : Dt H N v d := by
  rw [isa_list] at h1
  rw [isa_tuple] at h2
  cases h with
  | non => exact .non
  | bl b => exact .bl b
  | int i => exact .int i
  | str x => exact .str x
  | lst _ _ => cases h1
  | tup _ _ => cases h2
end
section
variable {P : Program} {w : World} {K : PySem.W.Frag} {mg : Str → Option Value} {base : Heap}
/-- a weaker promise -/
theorem fn_imp {CX : CXT} {k : Nat} {f : Addr} {fd : FuncData} {ps : List Str} {sp sp' : Sp} (F : FnOk P w K mg base CX k f fd ps sp) (h : ∀ vs H Q E, sp' vs H Q E → sp vs H Q E) : FnOk P w K mg base CX k f fd ps sp' :=
  ⟨fun vs H Q E x => F.len vs H Q E (h _ _ _ _ x), fun A st s H args us vs Q E r e b v x => F.run A st s H args us vs Q E r e b v (h _ _ _ _ x)⟩
theorem copy_of_T {n : Nat} : ∀ vs H Q E, spCopy K n vs H Q E → spCopyT K n vs H Q E := fun vs H Q E ⟨v, d, m, h1, h2, h3, h4, q⟩ => ⟨v, d, m, h1, h2, h3, h4, fun v' H' e x => q v' H' e (dt_dq _ _ _ x)⟩
theorem lcopiedT_step {f : Addr} {fd : FuncData} {n : Nat} (F : Fun K "_law_copied" "_law_copied" s_law_copied f fd) (z_isinstance : mg "isinstance" = none) (z_list : mg "list" = none) (z_tuple : mg "tuple" = none) (C_law_copied : Cal P w K mg base n "_law_copied" (spCopyT K n) []) :
    FnOk P w K mg base CX0 (n + 1) f fd ["value"] (spCopyT K (n + 1)) := by
  have sc := sc_law_copied
  refine F.ok sc (fun vs H Q E h => ?_) (fun cdv A outer s H vs Q E hr h => ?_)
  · obtain ⟨v, d, m, rfl, _⟩ := h
    rfl
  · obtain ⟨v, d, n', rfl, en, hv, hf, q⟩ := h
    obtain rfl : n' = n := by omega
    refine ⟨_, (pss_cons (ps_if (pt_val (pe_callB call_isi (by rfl) z_isinstance (by decide +kernel) (pa_cons (pv 0) (pa_cons (pe_bltn (v := .ty "list") (by rfl) z_list (by decide +kernel) rfl) pa_nil))))
      (pss_one (ps_ret (pe_lc (own := [("item", 1)]) (by rfl) sc.nd (pi_list (pv 0)) (blkOk_by (own := [("item", 1)]) (N := ["value", "item"]) (sc := defScope s_law_copied) (by decide +kernel)) (fun _ _ _ _ _ => (pg_name (i := 1) sc.nd rfl (by first | exact Or.inl rfl | exact Or.inr rfl))) (fun _ _ _ _ _ => pts_nil) (fun _ _ _ _ _ => (pe_c C_law_copied hr (by omega) (by rfl) (pa_cons (pv 1) pa_nil))))))
      pss_nil)
      (pss_cons (ps_if (pt_val (pe_callB call_isi (by rfl) z_isinstance (by decide +kernel) (pa_cons (pv 0) (pa_cons (pe_bltn (v := .ty "tuple") (by rfl) z_tuple (by decide +kernel) rfl) pa_nil))))
      (pss_one (ps_ret (pe_callTy call_tuple_of (by rfl) z_tuple (by decide +kernel) (pa_cons (pe_lc (own := [("item", 1)]) (by rfl) sc.nd (pi_tup (pv 0)) (blkOk_by (own := [("item", 1)]) (N := ["value", "item"]) (sc := defScope s_law_copied) (by decide +kernel)) (fun _ _ _ _ _ => (pg_name (i := 1) sc.nd rfl (by first | exact Or.inl rfl | exact Or.inr rfl))) (fun _ _ _ _ _ => pts_nil) (fun _ _ _ _ _ => (pe_c C_law_copied hr (by omega) (by rfl) (pa_cons (pv 1) pa_nil)))) pa_nil))))
      pss_nil)
      (pss_one (ps_ret (pv 0))))), ?_⟩
    have kd := kitB_isa d
    refine q_when (et_B (ev_isi hv (ev_var rfl) kd.2.2.2.1)) (fun hb H1 e1 => ?_) (fun hb H1 e1 => ?_)
    · obtain ⟨a, xs, ds, rfl, rfl, hs, hx⟩ := isa_list_t hv hb
      obtain ⟨m, em, lx, gx⟩ := fit_list hf
      have hx1 := dpa_ex e1 ds _ hx
      refine s_retR (lc_copyLT (ev_var rfl) (ex_l e1 hs) (dpa_len hx1) lx (fun _ => rfl) (fun i v d hv hd => ?_) fun D ys H2 nD e2 hD dq => ?_)
      · obtain ⟨d', hd', p⟩ := dpa_at2 hx1 hv
        have : d' = d := Option.some.inj (hd'.symm.trans hd)
        subst this
        exact cpT_call em (ev_var rfl) p (fitAll_mem gx (List.mem_of_getElem? hd))
      · exact q _ _ (e1.trans e2) (.lst (new_ex e1 nD) hD dq fun b z => ⟨new_ex e1 z.1, z.2⟩)
    refine q_when (et_B (ev_isi (dp_ex e1 _ _ hv) (ev_var rfl) kd.2.2.2.2)) (fun hc H2 e2 => ?_) (fun hc H2 e2 => ?_)
    · have e12 := e1.trans e2
      obtain ⟨a, xs, ds, rfl, rfl, hs, hx⟩ := isa_tuple_t hv hc
      obtain ⟨m, em, lx, gx⟩ := fit_tuple hf
      have hx1 := dpa_ex e12 ds _ hx
      refine s_retR (cb_1 ?_)
      refine lc_copyTT (ev_var rfl) (ex_t e12 hs) (dpa_len hx1) lx (fun _ => rfl) (fun i v d hv hd => ?_) fun D ys H3 nD e3 hD dq => ?_
      · obtain ⟨d', hd', p⟩ := dpa_at2 hx1 hv
        have : d' = d := Option.some.inj (hd'.symm.trans hd)
        subst this
        exact cpT_call em (ev_var rfl) p (fitAll_mem gx (List.mem_of_getElem? hd))
      · refine ⟨D, ys, rfl, .inl ⟨sq_of hD, fun T nT => ?_⟩⟩
        have eT := Ex.new (o := .tup ys) nT
        refine q _ _ ((e12.trans e3).trans eT) (.tup (new_ex (e12.trans e3) nT) upd_same (dta_to _ _ _ _ (fun _ z => z) (fun a u _ ha => eT _ _ ha) (dta_dom _ _ _ dq)) fun b z => ⟨new_ex e12 z.1.1, fun zz => ?_⟩)
        obtain ⟨o, ho⟩ := z.2
        rw [zz, nT] at ho; cases ho
    · have e12 := e1.trans e2
      exact s_ret (ev_var rfl) fun H3 e3 => q _ _ (e12.trans e3) (flat_dt (dp_ex (e12.trans e3) _ _ hv) hb hc)
theorem ok_lcopiedT {f : Addr} {fd : FuncData} (F : Fun K "_law_copied" "_law_copied" s_law_copied f fd) (g : mg "_law_copied" = some (.ref f)) (b : Binds K fd ["value"] []) (z_isinstance : mg "isinstance" = none) (z_list : mg "list" = none) (z_tuple : mg "tuple" = none) : ∀ n, FnOk P w K mg base CX0 n f fd ["value"] (spCopyT K n)
  | 0 => ⟨fun _ _ _ _ ⟨_, _, _, _, h, _⟩ => (nomatch h), fun _ _ _ _ _ _ _ _ _ _ _ _ _ ⟨_, _, _, _, h, _⟩ => (nomatch h)⟩
  | n + 1 => lcopiedT_step F z_isinstance z_list z_tuple ⟨f, fd, _, [], ok_lcopiedT F g b z_isinstance z_list z_tuple n, g, F.kp, b, .nil⟩
theorem copiedT_step {f : Addr} {fd : FuncData} {n : Nat} (F : Fun K "copied" "copied" scopied f fd) (z_isinstance : mg "isinstance" = none) (z_list : mg "list" = none) (z_tuple : mg "tuple" = none) (z_dict : mg "dict" = none) (Ccopied : Cal P w K mg base n "copied" (spCopyT K n) []) :
    FnOk P w K mg base CX0 (n + 1) f fd ["value"] (spCopyT K (n + 1)) := by
  have sc := sccopied
  refine F.ok sc (fun vs H Q E h => ?_) (fun cdv A outer s H vs Q E hr h => ?_)
  · obtain ⟨v, d, m, rfl, _⟩ := h
    rfl
  · obtain ⟨v, d, n', rfl, en, hv, hf, q⟩ := h
    obtain rfl : n' = n := by omega
    refine ⟨_, (pss_cons (ps_if (pt_val (pe_callB call_isi (by rfl) z_isinstance (by decide +kernel) (pa_cons (pv 0) (pa_cons (pe_bltn (v := .ty "list") (by rfl) z_list (by decide +kernel) rfl) pa_nil))))
      (pss_one (ps_ret (pe_lc (own := [("item", 1)]) (by rfl) sc.nd (pi_list (pv 0)) (blkOk_by (own := [("item", 1)]) (N := ["value", "item", "key", "worth"]) (sc := defScope scopied) (by decide +kernel)) (fun _ _ _ _ _ => (pg_name (i := 1) sc.nd rfl (by first | exact Or.inl rfl | exact Or.inr rfl))) (fun _ _ _ _ _ => pts_nil) (fun _ _ _ _ _ => (pe_c Ccopied hr (by omega) (by rfl) (pa_cons (pv 1) pa_nil))))))
      pss_nil)
      (pss_cons (ps_if (pt_val (pe_callB call_isi (by rfl) z_isinstance (by decide +kernel) (pa_cons (pv 0) (pa_cons (pe_bltn (v := .ty "tuple") (by rfl) z_tuple (by decide +kernel) rfl) pa_nil))))
      (pss_one (ps_ret (pe_callTy call_tuple_of (by rfl) z_tuple (by decide +kernel) (pa_cons (pe_lc (own := [("item", 1)]) (by rfl) sc.nd (pi_tup (pv 0)) (blkOk_by (own := [("item", 1)]) (N := ["value", "item", "key", "worth"]) (sc := defScope scopied) (by decide +kernel)) (fun _ _ _ _ _ => (pg_name (i := 1) sc.nd rfl (by first | exact Or.inl rfl | exact Or.inr rfl))) (fun _ _ _ _ _ => pts_nil) (fun _ _ _ _ _ => (pe_c Ccopied hr (by omega) (by rfl) (pa_cons (pv 1) pa_nil)))) pa_nil))))
      pss_nil)
      (pss_cons (ps_if (pt_val (pe_callB call_isi (by rfl) z_isinstance (by decide +kernel) (pa_cons (pv 0) (pa_cons (pe_bltn (v := .ty "dict") (by rfl) z_dict (by decide +kernel) rfl) pa_nil))))
      (pss_one ps_never)
      pss_nil)
      (pss_one (ps_ret (pv 0)))))), ?_⟩
    have kd := kitB_isa d
    refine q_when (et_B (ev_isi hv (ev_var rfl) kd.2.2.2.1)) (fun hb H1 e1 => ?_) (fun hb H1 e1 => ?_)
    · obtain ⟨a, xs, ds, rfl, rfl, hs, hx⟩ := isa_list_t hv hb
      obtain ⟨m, em, lx, gx⟩ := fit_list hf
      have hx1 := dpa_ex e1 ds _ hx
      refine s_retR (lc_copyLT (ev_var rfl) (ex_l e1 hs) (dpa_len hx1) lx (fun _ => rfl) (fun i v d hv hd => ?_) fun D ys H2 nD e2 hD dq => ?_)
      · obtain ⟨d', hd', p⟩ := dpa_at2 hx1 hv
        have : d' = d := Option.some.inj (hd'.symm.trans hd)
        subst this
        exact cpT_call em (ev_var rfl) p (fitAll_mem gx (List.mem_of_getElem? hd))
      · exact q _ _ (e1.trans e2) (.lst (new_ex e1 nD) hD dq fun b z => ⟨new_ex e1 z.1, z.2⟩)
    refine q_when (et_B (ev_isi (dp_ex e1 _ _ hv) (ev_var rfl) kd.2.2.2.2)) (fun hc H2 e2 => ?_) (fun hc H2 e2 => ?_)
    · have e12 := e1.trans e2
      obtain ⟨a, xs, ds, rfl, rfl, hs, hx⟩ := isa_tuple_t hv hc
      obtain ⟨m, em, lx, gx⟩ := fit_tuple hf
      have hx1 := dpa_ex e12 ds _ hx
      refine s_retR (cb_1 ?_)
      refine lc_copyTT (ev_var rfl) (ex_t e12 hs) (dpa_len hx1) lx (fun _ => rfl) (fun i v d hv hd => ?_) fun D ys H3 nD e3 hD dq => ?_
      · obtain ⟨d', hd', p⟩ := dpa_at2 hx1 hv
        have : d' = d := Option.some.inj (hd'.symm.trans hd)
        subst this
        exact cpT_call em (ev_var rfl) p (fitAll_mem gx (List.mem_of_getElem? hd))
      · refine ⟨D, ys, rfl, .inl ⟨sq_of hD, fun T nT => ?_⟩⟩
        have eT := Ex.new (o := .tup ys) nT
        refine q _ _ ((e12.trans e3).trans eT) (.tup (new_ex (e12.trans e3) nT) upd_same (dta_to _ _ _ _ (fun _ z => z) (fun a u _ ha => eT _ _ ha) (dta_dom _ _ _ dq)) fun b z => ⟨new_ex e12 z.1.1, fun zz => ?_⟩)
        obtain ⟨o, ho⟩ := z.2
        rw [zz, nT] at ho; cases ho
    · have e12 := e1.trans e2
      refine q_when (b := false) (et_B (ev_isi (dp_ex e12 _ _ hv) (ev_var rfl) (kd_dict hv))) (fun h => (nomatch h)) fun _ H3 e3 => ?_
      have e13 := e12.trans e3
      exact s_ret (ev_var rfl) fun H4 e4 => q _ _ (e13.trans e4) (flat_dt (dp_ex (e13.trans e4) _ _ hv) hb hc)
theorem ok_copiedT {f : Addr} {fd : FuncData} (F : Fun K "copied" "copied" scopied f fd) (g : mg "copied" = some (.ref f)) (b : Binds K fd ["value"] []) (z_isinstance : mg "isinstance" = none) (z_list : mg "list" = none) (z_tuple : mg "tuple" = none) (z_dict : mg "dict" = none) : ∀ n, FnOk P w K mg base CX0 n f fd ["value"] (spCopyT K n)
  | 0 => ⟨fun _ _ _ _ ⟨_, _, _, _, h, _⟩ => (nomatch h), fun _ _ _ _ _ _ _ _ _ _ _ _ _ ⟨_, _, _, _, h, _⟩ => (nomatch h)⟩
  | n + 1 => copiedT_step F z_isinstance z_list z_tuple z_dict ⟨f, fd, _, [], ok_copiedT F g b z_isinstance z_list z_tuple z_dict n, g, F.kp, b, .nil⟩
/-- bodies() -/
def spBdsT (K : PySem.W.Frag) (C : Addr) (cn : Nat) : Sp := fun vs H Q _ => ∃ (x : Addr) (c : Nat) (v : V) (d : PyData) (n : Nat), vs = [.ref x] ∧ BkO C H x c v ∧ Dp K H v d ∧ fit d n = true ∧ cn = n + 1 ∧ ∀ v' H', Ex H H' → Dt H' (New H) v' d → Q v' H'
theorem ok_bodiesT {C f : Addr} {fd : FuncData} {k cn : Nat} (F : Fun K "bodies" "Book.bodies" sBook_bodies f fd) (hc : Cls K C) (n2 : NoAttr K C "_bodies") (Ccopied : Cal P w K mg base cn "copied" (spCopyT K cn) []) (hcn : cn ≤ k) : FnOk P w K mg base CX0 (k + 1) f fd ["self"] (spBdsT K C cn) := by
  have sc := scBook_bodies
  refine F.ok sc (fun vs H Q E h => ?_) (fun cdv A outer s H vs Q E hr h => ?_)
  · obtain ⟨x, c, v, d, n, rfl, _⟩ := h
    rfl
  · obtain ⟨x, c, v, d, n, rfl, ⟨dx, hx⟩, hd, hf, hn, q⟩ := h
    refine ⟨_, (pss_one (ps_ret (pe_c Ccopied hr (by omega) (by rfl) (pa_cons (pe_fld (pv 0) rfl) pa_nil)))), ?_⟩
    exact s_retR (cpT_call hn (ev_fld hc n2 (ev_var rfl) hx rfl) hd hf H (Ex.refl H) _ fun v' H1 e1 hq => q v' H1 e1 hq)
end
/-! ### list(reversed(list)) -/
section
variable {prog : Program} {w : World} {A : Around} {E : Value → Shared → Prop} {s : Shared}
abbrev lstO (vs : Array Value) (n : Nat) : Obj := { cls := .type "list", dict := none, data := .seq vs n, slots := #[] }
/-- what stands behind, and where: S holds the items backwards, all but S and it stand -/
def Back (s : Shared) (S it : Addr) (items : Array Value) (s' : Shared) : Prop := ∃ (acc : Array Value) (n : Nat), s' = { s with heap := s'.heap, toks := s'.toks } ∧ (∀ b o, b ≠ S → b ≠ it → s.heap.get? b = some o → s'.heap.get? b = some o) ∧ s'.heap.get? S = some (lstO acc n) ∧ ItemsOf (fun i v => items[items.size - 1 - i]? = some v) acc items.size
theorem ext_back {S it l : Addr} {items : Array Value} {n : Nat} {R : Result → Shared → Prop} (hh : A.handled = none) (hS : s.heap.get? S = some (lstO #[] n)) (hi : s.heap.IsRevIter it l ((items.size : Int) - 1)) (hl : s.heap.IsList l items) (n1 : l ≠ it) (n2 : S ≠ it) (n3 : S ≠ l) (hz : items.size ≤ sizeLine)
    (k : ∀ s', Back s S it items s' → R (.ok (.ret .none)) s') :
    wpAny (model prog w) A.in1 (Builtin.List.listExtendWith (.ref S) (.ref it) .none) (fun fin s' => match fin with | .done f => R (.ok f) s' | .again c => c.quiet = true ∧ codeAny (model prog w) A c R s') (fun e s' => R (.error e) s') s := by
  have turns := (Walks.listRev (prog := prog) (w := w) (A := A.in1) hh it l n1 items).toS
  have kind : s.TypeIs (.ref it) "list_reverseiterator" := hi.typeIs
  have other : Builtin.List.listSameRef (.ref S) (.ref it) = false := by simp [Builtin.List.listSameRef, n2]
  have out : S ∉ [it, l] := by simp [n2, n3]
  have zero : (items.size : Int) - 1 - ((0 : Nat) : Int) = (items.size : Int) - 1 := by omega
  unfold Builtin.List.listExtendWith
  apply wpAny_bind
  apply wpAny_typeOf kind
  simp only [other, Bool.false_or]
  rw [if_neg (by decide +kernel)]
  apply wpAny_bind
  apply wpAny_pyIter_revIter hi
  apply wpAny_bind
  apply wpAny_holding
  unfold Builtin.List.listLengthHint
  apply wpAny_bind
  apply wpAny_specialOf kind RT.nolen_lri
  show wpAny _ _ (specialOf (.ref it) (Str.ofString "__length_hint__") >>= _) _ _ s
  apply wpAny_bind
  apply wpAny_specialOf kind RT.hint_lri
  have halves : splitId "list_reverseiterator.__length_hint__" = some ("list_reverseiterator", "__length_hint__") := by decide +kernel
  simp only [halves]
  apply wpAny_bind
  apply wpAny_isInstance (b := true) kind (by rw [isSubtype_type]; kernel_rfl)
  apply wpAny_pure
  rw [if_neg (by decide +kernel)]
  refine wpAny_pure ⟨plainId_quiet F.plain_extend_loop _, ?_⟩
  refine codeAny_extend_loopS turns hz S out .none items.size 0 s #[] n (Nat.sub_zero _) (Nat.zero_le _) ⟨Nat.zero_le _, by rw [zero]; exact hi, hl⟩ hS (ItemsOf.nil _) fun s' acc c moved here items' => k s' ⟨acc, c, Moved.eq_with moved, fun b o b1 b2 e => moved.heap b o (by simp [b1, b2]) e, here, items'⟩
end
section
variable {prog : Program} {w : World} {A : Around} {E : Value → Shared → Prop} {s : Shared}
theorem call_back {it l : Addr} {items : Array Value} {Q : Value → Shared → Prop} (hh : A.handled = none) (hi : s.heap.IsRevIter it l ((items.size : Int) - 1)) (hl : s.heap.IsList l items) (n1 : l ≠ it) (hz : items.size ≤ sizeLine)
    (k : ∀ (h : Heap) (t : Nat) (acc : Array Value) (n : Nat), (∀ b o, b ≠ it → s.heap.get? b = some o → h.get? b = some o) → h.get? s.heap.objs.size = some (lstO acc n) → ItemsOf (fun i v => items[items.size - 1 - i]? = some v) acc items.size → Q (.ref s.heap.objs.size) { s with heap := h, toks := t }) :
    wpAny (model prog w) A (call (.type "list") [.ref it]) Q E s := by
  have old : ∀ {b o}, s.heap.get? b = some o → b ≠ s.heap.objs.size := fun e z => Nat.lt_irrefl _ (z ▸ Heap.lt_size e)
  obtain ⟨oi, gi, _⟩ := id hi
  obtain ⟨ol, gl, _⟩ := id hl
  refine callType_codes (Q₁ := fun o t => o = .ref s.heap.objs.size ∧ t = { s with heap := s.heap.push (lstO #[] 0) }) F.called_list (F.typeCall_list_1 _) F.entry_list_init (code_list_new _ ⟨rfl, rfl⟩) ?_
  rintro o t ⟨rfl, rfl⟩
  have new : (s.heap.push (lstO #[] 0)).get? s.heap.objs.size = some (lstO #[] 0) := Heap.get?_push_size _ rfl
  refine ⟨⟨_, new, rfl⟩, F.args_list_init_2 _ _, ?_⟩
  show wpAny _ _ (Builtin.List.listItems (.ref s.heap.objs.size) >>= fun old => Builtin.List.listUpdate (.ref s.heap.objs.size) (fun _ => #[]) >>= fun _ => letGo old.toList.reverse >>= fun _ => Builtin.List.listExtendWith (.ref s.heap.objs.size) (.ref it) .none) _ _ _
  apply wpAny_bind
  unfold Builtin.List.listItems
  apply wpAny_bind
  apply wpAny_seqItems new rfl
  apply wpAny_pure
  apply wpAny_bind
  show wpAny _ _ (updateSeq s.heap.objs.size (fun _ => #[])) _ _ _
  apply wpAny_updateSeq new rfl
  apply wpAny_bind
  apply wpAny_letGo
  have again := Heap.get?_update_self (Obj.mapSeq fun _ => (#[] : Array Value)) new rfl
  have up : ∀ {b o}, b ≠ s.heap.objs.size → s.heap.get? b = some o → ((s.heap.push (lstO #[] 0)).update s.heap.objs.size (Obj.mapSeq fun _ => (#[] : Array Value))).get? b = some o := fun n e => (Heap.get?_update_other _ _ n.symm).trans (Heap.get?_push_of_some _ e)
  refine ext_back (A := A.in1) (S := s.heap.objs.size) hh again (hi.at fun o e => up (old gi) e) (hl.at fun o e => up (old gl) e) n1 (old gi).symm (old gl).symm hz fun s' back => ?_
  obtain ⟨acc, n, e, keeps, here, its⟩ := back
  refine ⟨rfl, ?_⟩
  rw [e]
  exact k s'.heap s'.toks acc n (fun b o nb g => keeps b o (old g) nb (up (old g) g)) here its
end
section
variable {X : Cx}
def tListRev (K : PySem.W.Frag) (te : TE) : TE := fun σ H Q => te σ H fun v H1 => ∃ (a : Addr) (xs : List V), v = .ref a ∧ SqL K H1 a xs ∧ ∀ q, H1 q = none → Q (.ref q) (upd H1 q (.lst xs.reverse))
theorem pe_listRev {e : Expr} {te : TE} {p p2 pos pos2 : Pos} (calm : X.calm = true) (g1 : Gl X "list") (m1 : X.mg "list" = none) (g2 : Gl X "reversed") (m2 : X.mg "reversed" = none) (he : PE X e te) (st : starEach [e] X.env = (false, eval e X.env) :: starEach [] X.env := by rfl)
    (st2 : starEach [.Call (.Name "reversed" p2) [e] [] pos2] X.env = (false, eval (.Call (.Name "reversed" p2) [e] [] pos2) X.env) :: starEach [] X.env := by rfl) : PE X (.Call (.Name "list" p) [.Call (.Name "reversed" p2) [e] [] pos2] [] pos) (tListRev X.K te) := by
  constructor
  intro pins s σ H Q I h
  have arg := thn (he.run pins s σ H _ I h) (Q' := fun u t => ∃ a xs H1, u = .ref a ∧ Inv X pins σ H1 t ∧ SqL X.K H1 a xs ∧ ∀ q, H1 q = none → Q (.ref q) (upd H1 q (.lst xs.reverse))) fun u t ⟨v, H1, I1, rv, a, xs, ev, hq, q⟩ => by
    subst ev
    exact ⟨a, xs, H1, rv, I1, hq, q⟩
  refine Call_ (ld_blt I g1 m1 (show bootBuiltins "list" = some (.type "list") by decide +kernel) (callWith_type1 (args_cons (Call_ (ld_blt I g2 m2 boot_reversed (callWith_type1 (args_cons (thn arg fun u t x => args_nil ?_) st) st rfl))) st2) st2 rfl))
  obtain ⟨a, xs, H1, rfl, J, hq, q⟩ := x
  obtain ⟨its, rv, at_, small⟩ := J.list hq
  have size : its.toArray.size = xs.length := by rw [List.size_toArray, rv.length]
  apply call_reversed_list at_.isList
  apply args_nil
  have keep : ∀ b o, t.heap.get? b = some o → (t.heap.push (revObj a ((its.toArray.size : Int) - 1))).get? b = some o := fun b o g => Heap.get?_push_of_some _ g
  have J2 : Inv X pins σ H1 { t with heap := t.heap.push (revObj a ((its.toArray.size : Int) - 1)) } := J.kept (t' := t.toks) keep
  obtain ⟨w0, w1, w2, w3, w4, w5⟩ := J.fpOk (H' := H1) (b := t.heap.objs.size) (Nat.le_refl _) (J.hok.fresh (Nat.le_refl _))
  obtain ⟨oa, ga, _⟩ := id at_.isList
  refine call_back (s := { t with heap := t.heap.push (revObj a ((its.toArray.size : Int) - 1)) }) (J.ok.hd calm) ⟨_, Heap.get?_push_size _ rfl, rfl, rfl⟩ (at_.isList.push _) (Nat.ne_of_lt (Heap.lt_size ga)) (by rw [size]; exact small) fun h tk acc n keeps here items => ?_
  have new : ObjOk X.prog X.w (upd H1 (t.heap.push (revObj a ((its.toArray.size : Int) - 1))).objs.size (.lst xs.reverse)) h (t.heap.push (revObj a ((its.toArray.size : Int) - 1))).objs.size (.lst xs.reverse) := by
    refine ⟨by rw [List.length_reverse]; exact small, acc.toList, n, RT.vals_rev rv items, ?_⟩
    rw [Array.toArray_toList]
    exact here
  have fp : ∀ b ∈ [t.heap.objs.size], FpOk X pins H1 b := fun b hb => by rw [List.mem_singleton.mp hb]; exact ⟨w0, w1, w2, w3, w4, w5⟩
  have J3 := J2.turnedNew (t' := tk) (h' := h) (fun b o nb g => keeps b o (fun z => nb (List.mem_singleton.mpr z)) g) fp (Nat.le_refl _) new
  exact ⟨.ref (t.heap.push (revObj a ((its.toArray.size : Int) - 1))).objs.size, _, J3, rfl, q _ (J2.hok.fresh (Nat.le_refl _))⟩
end
/-! ### each list a 7 longer -/
mutual
def lgr : PyData → PyData
  | .list xs => .list (lgrs xs ++ [.int 7])
  | .tuple xs => .tuple (lgrs xs)
  | .none => .none
  | .bool b => .bool b
  | .int i => .int i
  | .str x => .str x
  | .dict x => .dict x
def lgrs : List PyData → List PyData
  | [] => []
  | x :: r => lgr x :: lgrs r
end
theorem lgrs_app : ∀ a b : List PyData, lgrs (a ++ b) = lgrs a ++ lgrs b
  | [], b => by rw [List.nil_append, lgrs, List.nil_append]
  | x :: r, b => by rw [List.cons_append, lgrs, lgrs, lgrs_app r b, List.cons_append]
theorem lgrs_len : ∀ a : List PyData, (lgrs a).length = a.length
  | [] => by rw [lgrs]
  | x :: r => by rw [lgrs, List.length_cons, List.length_cons, lgrs_len r]
theorem lgrs_get : ∀ (a : List PyData) (i : Nat), (lgrs a)[i]? = (a[i]?).map lgr
  | [], i => by rw [lgrs]; simp
  | x :: r, 0 => by rw [lgrs]; simp
  | x :: r, i + 1 => by rw [lgrs, List.getElem?_cons_succ, List.getElem?_cons_succ, lgrs_get r i]
/-! all lengths together -/
mutual
def wid : PyData → Nat
  | .list xs => xs.length + wids xs
  | .tuple xs => xs.length + wids xs
  | .none => 0
  | .bool _ => 0
  | .int _ => 0
  | .str _ => 0
  | .dict _ => 0
def wids : List PyData → Nat
  | [] => 0
  | x :: r => wid x + wids r
end
mutual
theorem fit_lgr : ∀ (d : PyData) (n : Nat), fit d n = true → wid d ≤ 9000 → fit (lgr d) n = true
  | .none, _, h, _ => by rw [lgr]; exact h
  | .bool _, _, h, _ => by rw [lgr]; exact h
  | .int _, _, h, _ => by rw [lgr]; exact h
  | .str _, _, h, _ => by rw [lgr]; exact h
  | .dict _, _, h, _ => by rw [lgr]; exact h
  | .list xs, 0, h, _ => by simp [fit] at h
  | .list xs, n + 1, h, w => by
    rw [fit, Bool.and_eq_true] at h
    rw [wid] at w
    rw [lgr]
    refine lv_len (by rw [List.length_append, lgrs_len, List.length_singleton]; omega) ?_
    exact fitAll_app (fit_lgrs xs n h.2 (by omega)) (by rw [fitAll, fitAll]; rfl)
  | .tuple xs, 0, h, _ => by simp [fit] at h
  | .tuple xs, n + 1, h, w => by
    rw [fit, Bool.and_eq_true] at h
    rw [wid] at w
    rw [lgr]
    exact lv_tup (by rw [lgrs_len]; omega) (fit_lgrs xs n h.2 (by omega))
theorem fit_lgrs : ∀ (ds : List PyData) (n : Nat), fitAll ds n = true → wids ds ≤ 9000 → fitAll (lgrs ds) n = true
  | [], _, _, _ => by rw [lgrs, fitAll]
  | x :: r, n, h, w => by
    rw [fitAll, Bool.and_eq_true] at h
    rw [wids] at w
    rw [lgrs, fitAll, fit_lgr x n h.1 (by omega), fit_lgrs r n h.2 (by omega)]; rfl
theorem fitAll_app : ∀ {a b : List PyData} {n : Nat}, fitAll a n = true → fitAll b n = true → fitAll (a ++ b) n = true
  | [], b, n, _, h => h
  | x :: r, b, n, h, g => by
    rw [fitAll, Bool.and_eq_true] at h
    rw [List.cons_append, fitAll, h.1, fitAll_app h.2 g]; rfl
end
theorem wids_app : ∀ a b : List PyData, wids (a ++ b) = wids a + wids b
  | [], b => by rw [List.nil_append, wids, Nat.zero_add]
  | x :: r, b => by rw [List.cons_append, wids, wids, wids_app r b, Nat.add_assoc]
theorem wids_ints : ∀ l : List Int, wids (l.map PyData.int) = 0
  | [] => by rw [List.map_nil, wids]
  | i :: r => by rw [List.map_cons, wids, wids_ints r, wid]
theorem wid_LI (l : List Int) : wid (LI l) = l.length := by rw [wid, wids_ints, List.length_map, Nat.add_zero]
mutual
theorem wid_S {c m : Nat} (hc : c ≤ 3) : ∀ (s : Stm) (lv : Nat), okS c m s lv → wid (toD s) ≤ 30 * cnt s
  | .set k r, lv, h => by
    rw [okS] at h
    rw [toD, cnt, wid]
    have h9 := h.2.1
    simp only [wids, wid, wids_ints, List.length_map, List.length_cons, List.length_nil]
    omega
  | .carry r, lv, h => by
    rw [okS] at h
    rw [toD, cnt, wid]
    have h9 := h.1
    simp only [wids, wid, wids_ints, List.length_map, List.length_cons, List.length_nil]
    omega
  | .fin w, lv, h => by
    rw [toD, cnt, wid]
    simp only [wids, wid, List.length_cons, List.length_nil]
    omega
  | .keep cs b, lv, h => by
    rw [okS] at h
    have h1 := wid_L hc b (lv + 1) h.2.2.2
    have h2 := asc_len h.2.1
    have h3 := h.2.2.1
    rw [toD, cnt, wid]
    simp only [wids, wid, wids_ints, List.length_map, toDs_len, List.length_cons, List.length_nil]
    omega
  | .again b, lv, h => by
    rw [okS] at h
    have h1 := wid_L hc b (lv + 1) h.2.2
    have h3 := h.2.1
    rw [toD, cnt, wid]
    simp only [wids, wid, toDs_len, List.length_cons, List.length_nil]
    omega
  | .either a b, lv, h => by
    rw [okS] at h
    have h1 := wid_L hc a (lv + 1) h.2.2.1
    have h2 := wid_L hc b (lv + 1) h.2.2.2.2
    have h3 := h.2.1
    have h4 := h.2.2.2.1
    rw [toD, cnt, wid]
    simp only [wids, wid, toDs_len, List.length_cons, List.length_nil]
    omega
  | .call p r a b, lv, h => by
    rw [okS] at h
    have h1 := wid_L hc a (lv + 1) h.2.2.2.2.1
    have h2 := wid_L hc b (lv + 1) h.2.2.2.2.2.2
    have h3 := h.2.2.2.1
    have h4 := h.2.2.2.2.2.1
    have h5 := h.2.2.1.1
    rw [toD, cnt, wid]
    simp only [wids, wid, wids_ints, List.length_map, toDs_len, List.length_cons, List.length_nil]
    omega
theorem wid_L {c m : Nat} (hc : c ≤ 3) : ∀ (ss : List Stm) (lv : Nat), okL c m ss lv → wids (toDs ss) ≤ 30 * cntL ss
  | [], lv, h => by rw [toDs, wids, cntL]; omega
  | s :: r, lv, h => by
    rw [okL] at h
    have h1 := wid_S hc s lv h.1
    have h2 := wid_L hc r lv h.2
    rw [toDs, wids, cntL]; omega
end
theorem wid_B {c m : Nat} (hc : c ≤ 3) : ∀ (bs : List (List Stm)), (∀ b ∈ bs, okB c m b) → wids (bs.map bD) ≤ 400 * bs.length
  | [], _ => by rw [List.map_nil, wids]; omega
  | b :: r, h => by
    have h1 := wid_B hc r fun b hb => h b (List.mem_cons_of_mem _ hb)
    obtain ⟨h2, h3, h4⟩ := h b (List.mem_cons_self ..)
    have h5 := wid_L hc b 0 h2
    rw [List.map_cons, wids, bD, wid, toDs_len, List.length_cons]; omega
theorem fit_longB {c m : Nat} (hc : c ≤ 3) {bs : List (List Stm)} (hl : bs.length ≤ 3) (h : ∀ b ∈ bs, okB c m b) : fit (lgr (toB bs)) 14 = true := by
  refine fit_lgr _ _ (toB_fit hc (by omega) h) ?_
  have := wid_B hc bs h
  rw [toB, wid, List.length_map]; omega
theorem lgr_flat {d : PyData} (h1 : isa d "list" = false) (h2 : isa d "tuple" = false) : lgr d = d := by
  rw [isa_list] at h1
  rw [isa_tuple] at h2
  cases d with
  | list xs => cases h1
  | tuple xs => cases h2
  | _ => rw [lgr]
def mix (i : Nat) (ds : List PyData) : List PyData := lgrs (ds.take i) ++ ds.drop i
theorem mix_get {i : Nat} {ds : List PyData} (h : i < ds.length) : (mix i ds)[i]? = some ds[i] := by
  have h1 : (lgrs (ds.take i)).length = i := by rw [lgrs_len, List.length_take]; omega
  rw [mix, List.getElem?_append_right (by omega), h1, Nat.sub_self, List.getElem?_drop, Nat.add_zero, List.getElem?_eq_getElem h]
theorem mix_set {i : Nat} {ds : List PyData} (h : i < ds.length) : (mix i ds).set i (lgr ds[i]) = mix (i + 1) ds := by
  have h1 : (lgrs (ds.take i)).length = i := by rw [lgrs_len, List.length_take]; omega
  rw [mix, List.set_append_right _ _ (by omega), h1, Nat.sub_self, List.drop_eq_getElem_cons h, List.set_cons_zero, mix, List.take_add_one, List.getElem?_eq_getElem h, Option.toList_some, lgrs_app, List.append_assoc]
  rfl
theorem mix_end (ds : List PyData) : mix ds.length ds = lgrs ds := by
  rw [mix, List.take_length, List.drop_length, List.append_nil]
abbrev s_law_longer : Stmt := topS 47
theorem sc_law_longer : FnScope ["value", "item"] ["value"] (defScope s_law_longer) := ⟨rfl, rfl, rfl, by decide +kernel, rfl, by decide +kernel, by decide +kernel⟩
abbrev s_law_spoiled : Stmt := topS 48
theorem sc_law_spoiled : FnScope ["value", "item"] ["value"] (defScope s_law_spoiled) := ⟨rfl, rfl, rfl, by decide +kernel, rfl, by decide +kernel, by decide +kernel⟩
section
variable {P : Program} {w : World} {K : PySem.W.Frag} {mg : Str → Option Value} {base : Heap} {σ : L2.St} {H H' : Hp}
def spSpoil (n : Nat) : Sp := fun vs H Q _ => ∃ (v : V) (d : PyData) (N : Addr → Prop) (m : Nat), vs = [v] ∧ n = m + 1 ∧ Dt H N v d ∧ fit d m = true ∧ ∀ H', (∀ a o, ¬ N a → H a = some o → H' a = some o) → Dt H' N v (lgr d) → Q (.bl true) H'
theorem spoil_step {f : Addr} {fd : FuncData} {n : Nat} (F : Fun K "_law_spoiled" "_law_spoiled" s_law_spoiled f fd) (z_isinstance : mg "isinstance" = none) (z_list : mg "list" = none) (z_tuple : mg "tuple" = none) (C_law_spoiled : Cal P w K mg base n "_law_spoiled" (spSpoil n) []) :
    FnOk P w K mg base CX0 (n + 1) f fd ["value"] (spSpoil (n + 1)) := by
  have sc := sc_law_spoiled
  refine F.ok sc (fun vs H Q E h => ?_) (fun cdv A outer s H vs Q E hr h => ?_)
  · obtain ⟨v, d, N, m, rfl, _⟩ := h
    rfl
  · obtain ⟨v, d, N, n', rfl, en, hv, hf, q⟩ := h
    obtain rfl : n' = n := by omega
    refine ⟨_, (pss_cons (ps_if (pt_val (pe_callB call_isi (by rfl) z_isinstance (by decide +kernel) (pa_cons (pv 0) (pa_cons (pe_bltn (v := .ty "list") (by rfl) z_list (by decide +kernel) rfl) pa_nil))))
      (pss_cons (ps_for PassesOwn.never rfl (pi_list (pv 0)) (pg_name (i := 1) sc.nd rfl (by first | exact Or.inl rfl | exact Or.inr rfl))
      (pss_one (ps_expr (pe_c C_law_spoiled hr (by omega) (by rfl) (pa_cons (pv 1) pa_nil)))))
      (pss_one (ps_expr (pe_bm PySem.F.plainAttrs_list PySem.F.slot_list_append PySem.F.type_list_append mt_append (pv 0) (pa_cons pe_int pa_nil)))))
      pss_nil)
      (pss_cons (ps_if (pt_val (pe_callB call_isi (by rfl) z_isinstance (by decide +kernel) (pa_cons (pv 0) (pa_cons (pe_bltn (v := .ty "tuple") (by rfl) z_tuple (by decide +kernel) rfl) pa_nil))))
      (pss_one (ps_for PassesOwn.never rfl (pi_tup (pv 0)) (pg_name (i := 1) sc.nd rfl (by first | exact Or.inl rfl | exact Or.inr rfl))
      (pss_one (ps_expr (pe_c C_law_spoiled hr (by omega) (by rfl) (pa_cons (pv 1) pa_nil))))))
      pss_nil)
      (pss_one (ps_ret pe_bl)))), ?_⟩
    have hp : Dp K H v d := dq_dp _ _ (dt_dq _ _ _ hv)
    have kd := kitB_isa d
    have outN : ∀ {H1 : Hp}, Ex H H1 → Dt H1 N v d := fun e => dt_to _ _ _ _ (fun _ z => z) (fun a o _ ha => e _ _ ha) hv
    refine q_when (et_B (ev_isi hp (ev_var rfl) kd.2.2.2.1)) (fun hb H1 e1 => ?_) (fun hb H1 e1 => ?_)
    · have hv1 := outN e1
      have hb2 : isa d "tuple" = false := by
        rw [isa_list] at hb
        rw [isa_tuple]
        cases d <;> first | rfl | cases hb
      obtain ⟨a, xs0, ds, rfl, rfl, _, _⟩ := isa_list_t hp hb
      cases hv1 with
      | @lst N M _ xs _ na ha hx hM =>
        obtain ⟨m, em, lx, gx⟩ := fit_list hf
        have lxs := dta_len hx
        refine ⟨.ref a, rfl, a, rfl, ⟨xs, sq_of ha⟩, ?_⟩
        refine for_it walk_list (fun i σ' H' => ∃ x1 : Option V, σ' = [some (.ref a), x1] ∧ (∀ b o, ¬ N b → H1 b = some o → H' b = some o) ∧ H' a = some (.lst xs) ∧ DtAll H' M xs (mix i ds)) ⟨none, rfl, fun _ _ _ h => h, ha, hx⟩ (fun i σ' H' _ ⟨_, _, _, h, _⟩ => sq_of h) (fun i x σ' Hx H2 hi hP y => ?_) (fun σ' H2 hP => ?_)
        · obtain ⟨x1, rfl, keep, ha2, hx2⟩ := hP
          obtain ⟨rfl, hxi⟩ := y
          have hi2 : i < ds.length := by omega
          obtain ⟨d', Mi, hd', hMi, hx3, put⟩ := dta_at hx2 hxi
          rw [mix_get hi2] at hd'
          cases hd'
          show tDrop _ _ _ _
          refine ⟨x, rfl, x, ds[i], Mi, m, rfl, em, hx3, fitAll_mem gx (List.getElem_mem hi2), fun H3 keep3 dt3 => ?_⟩
          refine ⟨_, rfl, fun b o nb hb => keep3 b o (fun z => nb (hM b (hMi b z)).1) (keep b o nb hb), keep3 _ _ (fun z => (hM a (hMi a z)).2 rfl) ha2, ?_⟩
          have := put H3 (lgr ds[i]) keep3 dt3
          rw [mix_set hi2] at this
          exact this
        · obtain ⟨x1, rfl, keep, ha2, hx2⟩ := hP
          rw [lxs, mix_end] at hx2
          dsimp only
          refine s_app ha2 (ev_var rfl) ev_c (by omega) fun H3 e3 => ?_
          have dt4 : Dt (upd H3 a (.lst (xs ++ [.int 7]))) N (.ref a) (lgr (.list ds)) := by
            rw [lgr]
            exact .lst na upd_same (dta_snoc (N := M) (M := fun _ => False) (dta_to _ _ _ _ (fun _ z => z) (fun b o nb hb => by rw [upd_ne (hM b nb).2]; exact e3 _ _ hb) hx2) (.int 7) (fun _ z => z) (fun _ z => z.elim) fun _ _ z => z) hM
          have keep4 : ∀ b o, ¬ N b → H b = some o → upd H3 a (.lst (xs ++ [.int 7])) b = some o := fun b o nb hb => by
            rw [upd_ne fun z => nb (by rw [z]; exact na)]
            exact e3 _ _ (keep b o nb (e1 _ _ hb))
          generalize upd H3 a (.lst (xs ++ [.int 7])) = H4 at dt4 keep4 ⊢
          dsimp only
          have hp4 : Dp K H4 (.ref a) (lgr (.list ds)) := dq_dp _ _ (dt_dq _ _ _ dt4)
          have kd4 := kitB_isa (lgr (.list ds))
          refine q_when (b := false) (et_is (et_B (ev_isi hp4 (ev_var rfl) kd4.2.2.2.2)) (by rw [lgr, isa_tuple])) (fun h => (nomatch h)) fun _ H5 e5 => ?_
          exact s_ret ev_c fun H6 e6 => q H6 (fun b o nb hb => e6 _ _ (e5 _ _ (keep4 b o nb hb))) (dt_to _ _ _ _ (fun _ z => z) (fun b o _ hb => e6 _ _ (e5 _ _ hb)) dt4)
    · refine q_when (et_B (ev_isi (dp_ex e1 _ _ hp) (ev_var rfl) kd.2.2.2.2)) (fun hc H2 e2 => ?_) (fun hc H2 e2 => ?_)
      · have e12 := e1.trans e2
        have hv1 := outN e12
        obtain ⟨a, xs0, ds, rfl, rfl, _, _⟩ := isa_tuple_t hp hc
        cases hv1 with
        | @tup N M _ xs _ na ha hx hM =>
          obtain ⟨m, em, lx, gx⟩ := fit_tuple hf
          have lxs := dta_len hx
          refine ⟨.ref a, rfl, a, rfl, ⟨xs, st_of ha⟩, ?_⟩
          refine for_it walk_tup (fun i σ' H' => ∃ x1 : Option V, σ' = [some (.ref a), x1] ∧ (∀ b o, ¬ N b → H2 b = some o → H' b = some o) ∧ H' a = some (.tup xs) ∧ DtAll H' M xs (mix i ds)) ⟨none, rfl, fun _ _ _ h => h, ha, hx⟩ (fun i σ' H' _ ⟨_, _, _, h, _⟩ => st_of h) (fun i x σ' Hx H3 hi hP y => ?_) (fun σ' H3 hP => ?_)
          · obtain ⟨x1, rfl, keep, ha2, hx2⟩ := hP
            obtain ⟨rfl, hxi⟩ := y
            have hi2 : i < ds.length := by omega
            obtain ⟨d', Mi, hd', hMi, hx3, put⟩ := dta_at hx2 hxi
            rw [mix_get hi2] at hd'
            cases hd'
            show tDrop _ _ _ _
            refine ⟨x, rfl, x, ds[i], Mi, m, rfl, em, hx3, fitAll_mem gx (List.getElem_mem hi2), fun H4 keep3 dt3 => ?_⟩
            refine ⟨_, rfl, fun b o nb hb => keep3 b o (fun z => nb (hM b (hMi b z)).1) (keep b o nb hb), keep3 _ _ (fun z => (hM a (hMi a z)).2 rfl) ha2, ?_⟩
            have := put H4 (lgr ds[i]) keep3 dt3
            rw [mix_set hi2] at this
            exact this
          · obtain ⟨x1, rfl, keep, ha2, hx2⟩ := hP
            rw [lxs, mix_end] at hx2
            dsimp only
            refine s_ret ev_c fun H6 e6 => q H6 (fun b o nb hb => e6 _ _ (keep b o nb (e12 _ _ hb))) ?_
            rw [lgr]
            exact .tup na (e6 _ _ ha2) (dta_to _ _ _ _ (fun _ z => z) (fun b o _ hb => e6 _ _ hb) hx2) hM
      · have e12 := e1.trans e2
        refine s_ret ev_c fun H3 e3 => q H3 (fun b o _ hb => e3 _ _ (e12 _ _ hb)) ?_
        rw [lgr_flat hb hc]
        exact outN (e12.trans e3)
theorem ok_spoiled {f : Addr} {fd : FuncData} (F : Fun K "_law_spoiled" "_law_spoiled" s_law_spoiled f fd) (g : mg "_law_spoiled" = some (.ref f)) (b : Binds K fd ["value"] []) (z_isinstance : mg "isinstance" = none) (z_list : mg "list" = none) (z_tuple : mg "tuple" = none) : ∀ n, FnOk P w K mg base CX0 n f fd ["value"] (spSpoil n)
  | 0 => ⟨fun _ _ _ _ ⟨_, _, _, _, _, h, _⟩ => (nomatch h), fun _ _ _ _ _ _ _ _ _ _ _ _ _ ⟨_, _, _, _, _, h, _⟩ => (nomatch h)⟩
  | n + 1 => spoil_step F z_isinstance z_list z_tuple ⟨f, fd, _, [], ok_spoiled F g b z_isinstance z_list z_tuple n, g, F.kp, b, .nil⟩
/-- a longer copy -/
def spLong (K : PySem.W.Frag) (n : Nat) : Sp := fun vs H Q _ => ∃ (v : V) (d : PyData) (m : Nat), vs = [v] ∧ n = m + 1 ∧ Dp K H v d ∧ fit d m = true ∧ ∀ v' H', Ex H H' → Dq (New H) H' v' (lgr d) → Q v' H'
theorem lg_call {E : XK} {ti : TE} {n m : Nat} {v : V} {d : PyData} (hn : n = m + 1) (h : Ev ti σ H v) (hd : Dp K H v d) (hf : fit d m = true) : CpAt (tCall (spLong K n) [] E (tCons ti tNil)) σ H (lgr d) := fun H1 e Q q =>
  h H1 e _ fun H2 e2 => ⟨v, d, m, rfl, hn, dp_ex (e.trans e2) d v hd, hf, fun v' H3 e3 dq => q v' H3 (e2.trans e3) (dq_to (fun a n => new_ex e2 n) (fun _ _ _ h => h) _ _ dq)⟩
theorem long_step {f : Addr} {fd : FuncData} {n : Nat} (F : Fun K "_law_longer" "_law_longer" s_law_longer f fd) (z_isinstance : mg "isinstance" = none) (z_list : mg "list" = none) (z_tuple : mg "tuple" = none) (C_law_longer : Cal P w K mg base n "_law_longer" (spLong K n) []) :
    FnOk P w K mg base CX0 (n + 1) f fd ["value"] (spLong K (n + 1)) := by
  have sc := sc_law_longer
  refine F.ok sc (fun vs H Q E h => ?_) (fun cdv A outer s H vs Q E hr h => ?_)
  · obtain ⟨v, d, m, rfl, _⟩ := h
    rfl
  · obtain ⟨v, d, n', rfl, en, hv, hf, q⟩ := h
    obtain rfl : n' = n := by omega
    refine ⟨_, (pss_cons (ps_if (pt_val (pe_callB call_isi (by rfl) z_isinstance (by decide +kernel) (pa_cons (pv 0) (pa_cons (pe_bltn (v := .ty "list") (by rfl) z_list (by decide +kernel) rfl) pa_nil))))
      (pss_one (ps_ret (pe_op op_cat (pe_lc (own := [("item", 1)]) (by rfl) sc.nd (pi_list (pv 0)) (blkOk_by (own := [("item", 1)]) (N := ["value", "item"]) (sc := defScope s_law_longer) (by decide +kernel)) (fun _ _ _ _ _ => (pg_name (i := 1) sc.nd rfl (by first | exact Or.inl rfl | exact Or.inr rfl))) (fun _ _ _ _ _ => pts_nil) (fun _ _ _ _ _ => (pe_c C_law_longer hr (by omega) (by rfl) (pa_cons (pv 1) pa_nil)))) (pe_lst (pa_cons pe_int pa_nil)))))
      pss_nil)
      (pss_cons (ps_if (pt_val (pe_callB call_isi (by rfl) z_isinstance (by decide +kernel) (pa_cons (pv 0) (pa_cons (pe_bltn (v := .ty "tuple") (by rfl) z_tuple (by decide +kernel) rfl) pa_nil))))
      (pss_one (ps_ret (pe_callTy call_tuple_of (by rfl) z_tuple (by decide +kernel) (pa_cons (pe_lc (own := [("item", 1)]) (by rfl) sc.nd (pi_tup (pv 0)) (blkOk_by (own := [("item", 1)]) (N := ["value", "item"]) (sc := defScope s_law_longer) (by decide +kernel)) (fun _ _ _ _ _ => (pg_name (i := 1) sc.nd rfl (by first | exact Or.inl rfl | exact Or.inr rfl))) (fun _ _ _ _ _ => pts_nil) (fun _ _ _ _ _ => (pe_c C_law_longer hr (by omega) (by rfl) (pa_cons (pv 1) pa_nil)))) pa_nil))))
      pss_nil)
      (pss_one (ps_ret (pv 0))))), ?_⟩
    have kd := kitB_isa d
    refine q_when (et_B (ev_isi hv (ev_var rfl) kd.2.2.2.1)) (fun hb H1 e1 => ?_) (fun hb H1 e1 => ?_)
    · obtain ⟨a, xs, ds, rfl, rfl, hs, hx⟩ := isa_list_t hv hb
      obtain ⟨m, em, lx, gx⟩ := fit_list hf
      have hx1 := dpa_ex e1 ds _ hx
      refine s_retR ?_
      refine lc_copyL (ds := lgrs ds) (ev_var rfl) (ex_l e1 hs) (by rw [lgrs_len]; exact dpa_len hx1) (by rw [lgrs_len]; exact lx) (fun _ => rfl) (fun i v d hv hd => ?_) fun D ys H2 nD e2 hD dq => ?_
      · obtain ⟨d', hd', p⟩ := dpa_at2 hx1 hv
        rw [lgrs_get, hd'] at hd
        cases hd
        exact lg_call em (ev_var rfl) p (fitAll_mem gx (List.mem_of_getElem? hd'))
      · refine ⟨by show 1 ≤ sizeLine; decide, fun L nL => ?_⟩
        have eL := Ex.new (o := .lst [.int 7]) nL
        have lys := dqa_len dq
        rw [lgrs_len] at lys
        refine ⟨D, L, ys, [.int 7], rfl, rfl, eL _ _ hD, upd_same, sz_of (by rw [lys]; show ds.length + 1 ≤ 100000; omega), fun R nR => ?_⟩
        have eR := Ex.new (o := .lst (ys ++ [.int 7])) nR
        refine q _ _ (((e1.trans e2).trans eL).trans eR) ?_
        rw [lgr]
        exact .lst (new_ex ((e1.trans e2).trans eL) nR) upd_same (dqa_app (dqa_to (fun a n => new_ex e1 n.1) (fun a o _ ha => eR _ _ (eL _ _ ha)) _ _ dq) (.cons (.int 7) .nil))
    refine q_when (et_B (ev_isi (dp_ex e1 _ _ hv) (ev_var rfl) kd.2.2.2.2)) (fun hc H2 e2 => ?_) (fun hc H2 e2 => ?_)
    · have e12 := e1.trans e2
      obtain ⟨a, xs, ds, rfl, rfl, hs, hx⟩ := isa_tuple_t hv hc
      obtain ⟨m, em, lx, gx⟩ := fit_tuple hf
      have hx1 := dpa_ex e12 ds _ hx
      refine s_retR (cb_1 ?_)
      refine lc_copyT (ds := lgrs ds) (ev_var rfl) (ex_t e12 hs) (by rw [lgrs_len]; exact dpa_len hx1) (by rw [lgrs_len]; exact lx) (fun _ => rfl) (fun i v d hv hd => ?_) fun D ys H3 nD e3 hD dq => ?_
      · obtain ⟨d', hd', p⟩ := dpa_at2 hx1 hv
        rw [lgrs_get, hd'] at hd
        cases hd
        exact lg_call em (ev_var rfl) p (fitAll_mem gx (List.mem_of_getElem? hd'))
      · refine ⟨D, ys, rfl, .inl ⟨sq_of hD, fun T nT => ?_⟩⟩
        have eT := Ex.new (o := .tup ys) nT
        refine q _ _ ((e12.trans e3).trans eT) ?_
        rw [lgr]
        exact .tup (new_ex (e12.trans e3) nT) upd_same (dqa_to (fun a n => new_ex e12 n.1) (fun a u _ ha => eT _ _ ha) _ _ dq)
    · have e12 := e1.trans e2
      refine s_ret (ev_var rfl) fun H3 e3 => q _ _ (e12.trans e3) ?_
      rw [lgr_flat hb hc]
      exact flat_dq (dp_ex (e12.trans e3) _ _ hv) hb hc
theorem ok_longer {f : Addr} {fd : FuncData} (F : Fun K "_law_longer" "_law_longer" s_law_longer f fd) (g : mg "_law_longer" = some (.ref f)) (b : Binds K fd ["value"] []) (z_isinstance : mg "isinstance" = none) (z_list : mg "list" = none) (z_tuple : mg "tuple" = none) : ∀ n, FnOk P w K mg base CX0 n f fd ["value"] (spLong K n)
  | 0 => ⟨fun _ _ _ _ ⟨_, _, _, _, h, _⟩ => (nomatch h), fun _ _ _ _ _ _ _ _ _ _ _ _ _ ⟨_, _, _, _, h, _⟩ => (nomatch h)⟩
  | n + 1 => long_step F z_isinstance z_list z_tuple ⟨f, fd, _, [], ok_longer F g b z_isinstance z_list z_tuple n, g, F.kp, b, .nil⟩
end
/-! ### a heap without one object -/
def Ct (p : Addr) (H : Hp) : Hp := fun a => if a = p then none else H a
section
variable {K : PySem.W.Frag} {H H' Hb : Hp} {p a : Addr} {σ : L2.St} {ta tb te tl : TE}
theorem ct_self : Ct p H p = none := by rw [Ct, if_pos rfl]
theorem ct_o {o : HO} (h : H a = some o) (n : a ≠ p) : Ct p H a = some o := by rw [Ct, if_neg n]; exact h
theorem ct_ne {o : HO} (h : Ct p H a = some o) : a ≠ p ∧ H a = some o := by
  by_cases e : a = p
  · rw [Ct, if_pos e] at h; cases h
  · rw [Ct, if_neg e] at h; exact ⟨e, h⟩
theorem ct_ex : Ex (Ct p H) H := fun a o h => (ct_ne h).2
theorem ct_of (e : Oth p H H') : Ex (Ct p H) H' := fun a o h => e a o (ct_ne h).1 (ct_ne h).2
theorem ct_oth (e : Oth p H H') : Ex (Ct p H) (Ct p H') := fun a o h => ct_o (e a o (ct_ne h).1 (ct_ne h).2) (ct_ne h).1
theorem ct_mono (e : Ex H H') : Ex (Ct p H) (Ct p H') := ct_oth (.of e)
theorem ct_base (h : Ex Hb H) (hp : Hb p = none) : Ex Hb (Ct p H) := fun a o ha => ct_o (h a o ha) fun z => by rw [z, hp] at ha; cases ha
theorem ex_oth (h : Ex Hb H) (hp : Hb p = none) (o : Oth p H H') : Ex Hb H' := fun a u ha => o a u (fun z => by rw [z, hp] at ha; cases ha) (h a u ha)
theorem ct_rd {u : HO} {l : List V} (hp : H p = some (.lst l)) (h : Rd H a u) (hu : ∀ l, u ≠ .lst l) : Rd (Ct p H) a u := by
  rcases h with h | ⟨o, h⟩
  · exact .inl (ct_o h fun z => by rw [z, hp] at h; exact hu _ (Option.some.inj h).symm)
  · exact .inr ⟨o, ct_o h fun z => by rw [z, hp] at h; cases h⟩
theorem ct_t {xs l : List V} (hp : H p = some (.lst l)) (h : SqT K H a xs) : SqT K (Ct p H) a xs := by
  rcases h with h | h
  · exact .inl (ct_rd hp h fun l e => by cases e)
  · exact .inr h
/-! ### arguments of one kind -/
def EvW (Φ : V → Hp → Prop) (ta : TA) (σ : L2.St) (H : Hp) (n : Nat) : Prop := ∀ H1, Ex H H1 → ∀ Q : List V → Hp → Prop, (∀ vs H2, Ex H1 H2 → vs.length = n → (∀ v ∈ vs, Φ v H2) → Q vs H2) → ta σ H1 Q
theorem ew_nil {Φ : V → Hp → Prop} : EvW Φ tNil σ H 0 := fun H1 _ _ q => q [] H1 (Ex.refl H1) rfl fun _ h => by cases h
theorem ew_cons {Φ : V → Hp → Prop} {tr : TA} {n : Nat} (mono : ∀ v H H', Ex H H' → Φ v H → Φ v H') (h : EvP te σ H Φ) (hr : EvW Φ tr σ H n) : EvW Φ (tCons te tr) σ H (n + 1) := fun H1 e _ q =>
  h H1 e _ fun v H2 e2 f => hr H2 (e.trans e2) _ fun vs H3 e3 hl hv => q (v :: vs) H3 (e2.trans e3) (by rw [List.length_cons, hl]) fun w hw => by
    rcases List.mem_cons.mp hw with rfl | hw
    · exact mono _ _ _ e3 f
    · exact hv w hw
def TupIs (K : PySem.W.Frag) (xs : List V) (v : V) (H : Hp) : Prop := ∃ a, v = .ref a ∧ SqT K H a xs
theorem ti_var {i : Nat} {xs : List V} (h : σ[i]? = some (some (.ref a))) (hs : SqT K H a xs) : EvP (tVar i) σ H (TupIs K xs) := ep_ev (ev_var h) fun H2 e => ⟨a, rfl, ex_t e hs⟩
theorem ti_tup {tr : TA} {vs : List V} (h : EvA tr σ H vs) (hl : vs.length ≤ 100000) : EvP (tTup tr) σ H (TupIs K vs) := fun H1 e _ q =>
  h H1 e _ fun H2 e2 => ⟨sz_of hl, fun T hT => q _ _ (e2.trans (Ex.new hT)) ⟨T, rfl, st_of upd_same⟩⟩
theorem ti_cat {tr : TA} {xs ys : List V} (h1 : EvP ta σ H (TupIs K xs)) (h : EvA tr σ H ys) (hy : ys ≠ []) (l1 : xs.length ≤ 1000) (l2 : ys.length ≤ 1000) : EvP (tOp (rCatA K) ta (tTup tr)) σ H (TupIs K (xs ++ ys)) := fun H1 e Q q =>
  h1 H1 e _ fun v H2 e2 ⟨a, hv, ha⟩ => h H2 (e.trans e2) _ fun H3 e3 => ⟨sz_of (by omega), fun T hT => by
    have eT := Ex.new (o := .tup ys) hT
    refine ⟨a, T, xs, ys, hv, rfl, ex_t (e3.trans eT) ha, st_of upd_same, sz_of (by omega), fun h0 => ?_, fun _ h0 => absurd h0 hy, fun _ _ T2 n2 => ?_⟩
    · refine q _ _ ((e2.trans e3).trans eT) ⟨T, rfl, ?_⟩
      rw [h0, List.nil_append]
      exact st_of upd_same
    · exact q _ _ (((e2.trans e3).trans eT).trans (Ex.new n2)) ⟨T2, rfl, st_of upd_same⟩⟩
theorem cut_init (xs : List V) (h : xs ≠ []) : cutV xs none (some ((xs.length : Int) - 1)) = xs.take (xs.length - 1) := by
  have h0 : 0 < xs.length := List.length_pos_iff.mpr h
  unfold cutV
  rw [HT.sIx_none, show ((xs.length : Int) - 1) = ((xs.length - 1 : Nat) : Int) by omega, show HT.sIx xs.length xs.length (some ((xs.length - 1 : Nat) : Int)) = min (xs.length - 1) xs.length from HT.sIx_nat xs.length xs.length _]
  show (xs.drop 0).take (min (xs.length - 1) xs.length - 0) = _
  rw [List.drop_zero, Nat.sub_zero, Nat.min_eq_left (by omega)]
theorem ti_init {i : Nat} {xs : List V} (h : σ[i]? = some (some (.ref a))) (hs : SqT K H a xs) (hx : xs ≠ []) : EvP (tSl (rSlT K) (tVar i) tNoPart (tPart (tOp (rI0 fun i j => .int (i - j)) (tCB (rLenS K) (tCons (tVar i) tNil)) (tC (.int 1))))) σ H (TupIs K (xs.take (xs.length - 1))) := fun H1 e Q q => by
  have h0 : 0 < xs.length := List.length_pos_iff.mpr hx
  refine ⟨.ref a, h, ?_⟩
  refine ev_op (ev_lenS (ev_var h) (.inr (ex_t e hs))) ev_c rv_I0 H1 (Ex.refl H1) _ fun H2 e2 => ?_
  refine ⟨(xs.length : Int) - 1, rfl, a, xs, rfl, ex_t (e.trans e2) hs, fun ⟨_, z⟩ => ?_, fun T nT => ?_⟩
  · rw [show ((xs.length : Int) - 1) = ((xs.length - 1 : Nat) : Int) by omega, show HT.sIx xs.length xs.length (some ((xs.length - 1 : Nat) : Int)) = min (xs.length - 1) xs.length from HT.sIx_nat xs.length xs.length _] at z
    omega
  · refine q _ _ (e2.trans (Ex.new nT)) ⟨T, rfl, ?_⟩
    rw [← cut_init xs hx]
    exact st_of upd_same
end
/-! ### one number of a row turned: the first row that is met -/
def flipL : List Int → List Int
  | [] => []
  | i :: r => (if i = 1 then 0 else 1) :: r
mutual
def turnS : Stm → Bool → Stm × Bool
  | .set k r, b => (if b = true then .set k r else .set k (flipL r), true)
  | .carry r, b => (if b = true then .carry r else .carry (flipL r), true)
  | .keep cs x, b => (.keep cs (turnL x b).1, (turnL x b).2)
  | .either x y, b => (.either (turnL x b).1 (turnL y (turnL x b).2).1, (turnL y (turnL x b).2).2)
  | .again x, b => (.again (turnL x b).1, (turnL x b).2)
  | .call p r x y, b => (.call p r (turnL x b).1 (turnL y (turnL x b).2).1, (turnL y (turnL x b).2).2)
  | .fin w, b => (.fin w, b)
def turnL : List Stm → Bool → List Stm × Bool
  | [], b => ([], b)
  | s :: r, b => ((turnS s b).1 :: (turnL r (turnS s b).2).1, (turnL r (turnS s b).2).2)
end
def turnB : List (List Stm) → Bool → List (List Stm) × Bool
  | [], b => ([], b)
  | x :: r, b => ((turnL x b).1 :: (turnB r (turnL x b).2).1, (turnB r (turnL x b).2).2)
/-! the same on data -/
def isT : List PyData → Bool
  | .str w :: _ => decide (w = Str.ofString "set") || decide (w = Str.ofString "carry")
  | _ => false
def flipD : PyData → PyData
  | .list (.int i :: r) => .list (.int (if i = 1 then 0 else 1) :: r)
  | d => d
mutual
def turnD : PyData → Bool → PyData × Bool
  | .list ds, b => (.list (turnDs ds b).1, (turnDs ds b).2)
  | .tuple ds, b => if (isT ds && !b) = true then (.tuple (ds.take (ds.length - 1) ++ [flipD (ds.getD (ds.length - 1) .none)]), true) else (.tuple (turnDs ds b).1, (turnDs ds b).2)
  | .none, b => (.none, b)
  | .bool x, b => (.bool x, b)
  | .int x, b => (.int x, b)
  | .str x, b => (.str x, b)
  | .dict x, b => (.dict x, b)
def turnDs : List PyData → Bool → List PyData × Bool
  | [], b => ([], b)
  | d :: r, b => ((turnD d b).1 :: (turnDs r (turnD d b).2).1, (turnDs r (turnD d b).2).2)
end
theorem turnDs_ints : ∀ (l : List Int) (b : Bool), turnDs (l.map PyData.int) b = (l.map PyData.int, b)
  | [], b => by rw [List.map_nil, turnDs]
  | i :: r, b => by rw [List.map_cons, turnDs, turnD, turnDs_ints r b]
theorem turnD_LI (l : List Int) (b : Bool) : turnD (LI l) b = (LI l, b) := by rw [turnD, turnDs_ints]
theorem flipD_LI (l : List Int) : flipD (LI l) = LI (flipL l) := by
  cases l with
  | nil => rfl
  | cons i r => rfl
theorem isT_no {w : Str} {r : List PyData} (h1 : decide (w = Str.ofString "set") = false) (h2 : decide (w = Str.ofString "carry") = false) : isT (.str w :: r) = false := by
  rw [isT, h1, h2]; rfl
theorem tcons {d d' : PyData} {r r' : List PyData} {b b' b'' : Bool} (h1 : turnD d b = (d', b')) (h2 : turnDs r b' = (r', b'')) : turnDs (d :: r) b = (d' :: r', b'') := by
  rw [turnDs, h1]
  show (d' :: (turnDs r b').1, (turnDs r b').2) = _
  rw [h2]
theorem tnil (b : Bool) : turnDs [] b = ([], b) := by rw [turnDs]
theorem tlist {ds ds' : List PyData} {b b' : Bool} (h : turnDs ds b = (ds', b')) : turnD (.list ds) b = (.list ds', b') := by rw [turnD, h]
theorem ttup {ds ds' : List PyData} {b b' : Bool} (n : (isT ds && !b) = false) (h : turnDs ds b = (ds', b')) : turnD (.tuple ds) b = (.tuple ds', b') := by
  rw [turnD, if_neg (by rw [n]; decide), h]
theorem tstr (w : Str) (b : Bool) : turnD (.str w) b = (.str w, b) := by rw [turnD]
theorem tint (w : Int) (b : Bool) : turnD (.int w) b = (.int w, b) := by rw [turnD]
theorem isT_no' {w : Str} {r : List PyData} {b : Bool} (h1 : decide (w = Str.ofString "set") = false) (h2 : decide (w = Str.ofString "carry") = false) : (isT (.str w :: r) && !b) = false := by
  rw [isT_no h1 h2]; rfl
mutual
theorem turn_S : ∀ (s : Stm) (b : Bool), turnD (toD s) b = (toD (turnS s b).1, (turnS s b).2)
  | .set k r, true => by
    rw [turnS, if_pos rfl]
    exact ttup (Bool.and_false _) (tcons (tstr _ _) (tcons (tint _ _) (tcons (turnD_LI _ _) (tnil _))))
  | .set k r, false => by
    rw [turnS, if_neg (by decide), toD, turnD, if_pos (by rfl), toD, ← flipD_LI]; rfl
  | .carry r, true => by
    rw [turnS, if_pos rfl]
    exact ttup (Bool.and_false _) (tcons (tstr _ _) (tcons (turnD_LI _ _) (tnil _)))
  | .carry r, false => by
    rw [turnS, if_neg (by decide), toD, turnD, if_pos (by rfl), toD, ← flipD_LI]; rfl
  | .fin w, b => by
    rw [turnS]
    exact ttup (isT_no' (by decide) (by decide)) (tcons (tstr _ _) (tcons (tint _ _) (tnil _)))
  | .keep cs x, b => by
    rw [turnS]
    exact ttup (isT_no' (by decide) (by decide)) (tcons (tstr _ _) (tcons (turnD_LI _ _) (tcons (tlist (turn_L x b)) (tnil _))))
  | .again x, b => by
    rw [turnS]
    exact ttup (isT_no' (by decide) (by decide)) (tcons (tstr _ _) (tcons (tlist (turn_L x b)) (tnil _)))
  | .either x y, b => by
    rw [turnS]
    exact ttup (isT_no' (by decide) (by decide)) (tcons (tstr _ _) (tcons (tlist (turn_L x b)) (tcons (tlist (turn_L y _)) (tnil _))))
  | .call p r x y, b => by
    rw [turnS]
    exact ttup (isT_no' (by decide) (by decide)) (tcons (tstr _ _) (tcons (tint _ _) (tcons (turnD_LI _ _) (tcons (tlist (tcons (tlist (turn_L x b)) (tcons (tlist (turn_L y _)) (tnil _)))) (tnil _)))))
theorem turn_L : ∀ (ss : List Stm) (b : Bool), turnDs (toDs ss) b = (toDs (turnL ss b).1, (turnL ss b).2)
  | [], b => by rw [toDs, tnil, turnL, toDs]
  | s :: r, b => by
    rw [toDs, turnL]
    exact (tcons (turn_S s b) (turn_L r _)).trans (by rw [toDs])
end
theorem turn_Bs : ∀ (bs : List (List Stm)) (b : Bool), turnDs (bs.map bD) b = ((turnB bs b).1.map bD, (turnB bs b).2)
  | [], b => by rw [turnB]; exact tnil b
  | x :: r, b => by
    rw [turnB]
    exact tcons (tlist (turn_L x b)) (turn_Bs r _)
theorem turn_B (bs : List (List Stm)) (b : Bool) : turnD (toB bs) b = (toB (turnB bs b).1, (turnB bs b).2) := by
  rw [toB, tlist (turn_Bs bs b), toB]
/-! what stays -/
theorem flip_ok {c : Nat} {r : List Int} (h : okR c r) : okR c (flipL r) := by
  obtain ⟨h1, h2⟩ := h
  cases r with
  | nil => exact ⟨h1, h2⟩
  | cons i t =>
    refine ⟨h1, fun x hx => ?_⟩
    rcases List.mem_cons.mp hx with rfl | hx
    · split <;> omega
    · exact h2 x (List.mem_cons_of_mem _ hx)
theorem flip_ne {c : Nat} {r : List Int} (h : okR c r) : flipL r ≠ r := by
  obtain ⟨h1, _⟩ := h
  cases r with
  | nil => simp at h1
  | cons i t =>
    intro z
    have := (List.cons.inj z).1
    split at this <;> omega
theorem turnL_len : ∀ (ss : List Stm) (b : Bool), (turnL ss b).1.length = ss.length
  | [], b => by rw [turnL]
  | s :: r, b => by rw [turnL, List.length_cons, List.length_cons, turnL_len r]
mutual
theorem turnS_cnt : ∀ (s : Stm) (b : Bool), cnt (turnS s b).1 = cnt s
  | .set k r, b => by rw [turnS]; cases b <;> rfl
  | .carry r, b => by rw [turnS]; cases b <;> rfl
  | .fin w, b => by rw [turnS]
  | .keep cs x, b => by rw [turnS, cnt, cnt, turnL_cnt x]
  | .again x, b => by rw [turnS, cnt, cnt, turnL_cnt x]
  | .either x y, b => by rw [turnS, cnt, cnt, turnL_cnt x, turnL_cnt y]
  | .call p r x y, b => by rw [turnS, cnt, cnt, turnL_cnt x, turnL_cnt y]
theorem turnL_cnt : ∀ (ss : List Stm) (b : Bool), cntL (turnL ss b).1 = cntL ss
  | [], b => by rw [turnL]
  | s :: r, b => by rw [turnL, cntL, cntL, turnS_cnt s, turnL_cnt r]
end
mutual
theorem turnS_ok {c m : Nat} : ∀ (s : Stm) (b : Bool) (lv : Nat), okS c m s lv → okS c m (turnS s b).1 lv
  | .set k r, b, lv, h => by
    rw [okS] at h
    rw [turnS]
    cases b with
    | true => rw [if_pos rfl, okS]; exact h
    | false => rw [if_neg (by decide), okS]; exact ⟨h.1, flip_ok h.2⟩
  | .carry r, b, lv, h => by
    rw [okS] at h
    rw [turnS]
    cases b with
    | true => rw [if_pos rfl, okS]; exact h
    | false => rw [if_neg (by decide), okS]; exact flip_ok h
  | .fin w, b, lv, h => by rw [turnS]; exact h
  | .keep cs x, b, lv, h => by
    rw [okS] at h
    rw [turnS, okS]
    exact ⟨h.1, h.2.1, by rw [turnL_len]; exact h.2.2.1, turnL_ok x b _ h.2.2.2⟩
  | .again x, b, lv, h => by
    rw [okS] at h
    rw [turnS, okS]
    exact ⟨h.1, by rw [turnL_len]; exact h.2.1, turnL_ok x b _ h.2.2⟩
  | .either x y, b, lv, h => by
    rw [okS] at h
    rw [turnS, okS]
    exact ⟨h.1, by rw [turnL_len]; exact h.2.1, turnL_ok x b _ h.2.2.1, by rw [turnL_len]; exact h.2.2.2.1, turnL_ok y _ _ h.2.2.2.2⟩
  | .call p r x y, b, lv, h => by
    rw [okS] at h
    rw [turnS, okS]
    exact ⟨h.1, h.2.1, h.2.2.1, by rw [turnL_len]; exact h.2.2.2.1, turnL_ok x b _ h.2.2.2.2.1, by rw [turnL_len]; exact h.2.2.2.2.2.1, turnL_ok y _ _ h.2.2.2.2.2.2⟩
theorem turnL_ok {c m : Nat} : ∀ (ss : List Stm) (b : Bool) (lv : Nat), okL c m ss lv → okL c m (turnL ss b).1 lv
  | [], b, lv, h => by rw [turnL]; exact h
  | s :: r, b, lv, h => by
    rw [okL] at h
    rw [turnL, okL]
    exact ⟨turnS_ok s b lv h.1, turnL_ok r _ lv h.2⟩
end
theorem turnB_len : ∀ (bs : List (List Stm)) (b : Bool), (turnB bs b).1.length = bs.length
  | [], b => by rw [turnB]
  | s :: r, b => by rw [turnB, List.length_cons, List.length_cons, turnB_len r]
theorem turnB_ok {c m : Nat} : ∀ (bs : List (List Stm)) (b : Bool), (∀ x ∈ bs, okB c m x) → ∀ x ∈ (turnB bs b).1, okB c m x
  | [], b, h => by rw [turnB]; exact h
  | s :: r, b, h => by
    rw [turnB]
    intro x hx
    rcases List.mem_cons.mp hx with rfl | hx
    · obtain ⟨h1, h2, h3⟩ := h s (List.mem_cons_self ..)
      exact ⟨turnL_ok s b 0 h1, by rw [turnL_len]; exact h2, by rw [turnL_cnt]; exact h3⟩
    · exact turnB_ok r _ (fun x hx => h x (List.mem_cons_of_mem _ hx)) x hx
/-! what is turned is another -/
mutual
theorem turnS_t : ∀ (s : Stm), turnS s true = (s, true)
  | .set k r => by rw [turnS]; rfl
  | .carry r => by rw [turnS]; rfl
  | .fin w => by rw [turnS]
  | .keep cs x => by rw [turnS, turnL_t x]
  | .again x => by rw [turnS, turnL_t x]
  | .either x y => by rw [turnS, turnL_t x, turnL_t y]
  | .call p r x y => by rw [turnS, turnL_t x, turnL_t y]
theorem turnL_t : ∀ (ss : List Stm), turnL ss true = (ss, true)
  | [] => by rw [turnL]
  | s :: r => by rw [turnL, turnS_t s, turnL_t r]
end
theorem turnB_t : ∀ (bs : List (List Stm)), turnB bs true = (bs, true)
  | [] => by rw [turnB]
  | s :: r => by rw [turnB, turnL_t s, turnB_t r]
mutual
theorem turnS_ne {c m : Nat} : ∀ (s : Stm) (lv : Nat), okS c m s lv → (turnS s false).2 = true → (turnS s false).1 ≠ s
  | .set k r, lv, h, _ => by
    rw [okS] at h
    rw [turnS, if_neg (by decide)]
    intro z; cases Stm.set.inj z with
    | intro _ z => exact flip_ne h.2 z
  | .carry r, lv, h, _ => by
    rw [okS] at h
    rw [turnS, if_neg (by decide)]
    exact fun z => flip_ne h (Stm.carry.inj z)
  | .fin w, lv, h, t => by rw [turnS] at t; cases t
  | .keep cs x, lv, h, t => by
    rw [okS] at h
    rw [turnS] at t ⊢
    exact fun z => turnL_ne x _ h.2.2.2 t (Stm.keep.inj z).2
  | .again x, lv, h, t => by
    rw [okS] at h
    rw [turnS] at t ⊢
    exact fun z => turnL_ne x _ h.2.2 t (Stm.again.inj z)
  | .either x y, lv, h, t => by
    rw [okS] at h
    rw [turnS] at t ⊢
    intro z
    obtain ⟨z1, z2⟩ := Stm.either.inj z
    cases e : (turnL x false).2 with
    | true => exact turnL_ne x _ h.2.2.1 e z1
    | false =>
      rw [e] at t z2
      exact turnL_ne y _ h.2.2.2.2 t z2
  | .call p r x y, lv, h, t => by
    rw [okS] at h
    rw [turnS] at t ⊢
    intro z
    obtain ⟨_, _, z1, z2⟩ := Stm.call.inj z
    cases e : (turnL x false).2 with
    | true => exact turnL_ne x _ h.2.2.2.2.1 e z1
    | false =>
      rw [e] at t z2
      exact turnL_ne y _ h.2.2.2.2.2.2 t z2
theorem turnL_ne {c m : Nat} : ∀ (ss : List Stm) (lv : Nat), okL c m ss lv → (turnL ss false).2 = true → (turnL ss false).1 ≠ ss
  | [], lv, h, t => by rw [turnL] at t; cases t
  | s :: r, lv, h, t => by
    rw [okL] at h
    rw [turnL] at t ⊢
    intro z
    obtain ⟨z1, z2⟩ := List.cons.inj z
    cases e : (turnS s false).2 with
    | true => exact turnS_ne s lv h.1 e z1
    | false =>
      rw [e] at t z2
      exact turnL_ne r lv h.2 t z2
end
theorem turnB_ne {c m : Nat} : ∀ (bs : List (List Stm)), (∀ x ∈ bs, okB c m x) → (turnB bs false).2 = true → (turnB bs false).1 ≠ bs
  | [], h, t => by rw [turnB] at t; cases t
  | s :: r, h, t => by
    rw [turnB] at t ⊢
    intro z
    obtain ⟨z1, z2⟩ := List.cons.inj z
    cases e : (turnL s false).2 with
    | true => exact turnL_ne s 0 (h s (List.mem_cons_self ..)).1 e z1
    | false =>
      rw [e] at t z2
      exact turnB_ne r (fun x hx => h x (List.mem_cons_of_mem _ hx)) t z2
/-! data without flags: equal is the same -/
mutual
def noB : PyData → Bool
  | .list xs => noBs xs
  | .tuple xs => noBs xs
  | .int _ => true
  | .str _ => true
  | _ => false
def noBs : List PyData → Bool
  | [] => true
  | x :: r => noB x && noBs r
end
mutual
theorem eqv_noB : ∀ (d e : PyData), noB d = true → noB e = true → (PyData.eqv d e = true ↔ d = e)
  | .list xs, e, h, g => by
    cases e with
    | list ys => rw [PyData.eqv]; rw [noB] at h g; exact (eqv_noBs xs ys h g).trans ⟨fun z => by rw [z], fun z => PyData.list.inj z⟩
    | _ => simp [PyData.eqv, noB] at g ⊢
  | .tuple xs, e, h, g => by
    cases e with
    | tuple ys => rw [PyData.eqv]; rw [noB] at h g; exact (eqv_noBs xs ys h g).trans ⟨fun z => by rw [z], fun z => PyData.tuple.inj z⟩
    | _ => simp [PyData.eqv, noB] at g ⊢
  | .int i, e, h, g => by
    cases e with
    | int j => rw [PyData.eqv, beq_iff_eq]; exact ⟨fun z => by rw [z], fun z => PyData.int.inj z⟩
    | _ => simp [PyData.eqv, noB] at g ⊢
  | .str i, e, h, g => by
    cases e with
    | str j => rw [PyData.eqv, beq_iff_eq]; exact ⟨fun z => by rw [z], fun z => PyData.str.inj z⟩
    | _ => simp [PyData.eqv, noB] at g ⊢
  | .none, _, h, _ => by simp [noB] at h
  | .bool _, _, h, _ => by simp [noB] at h
  | .dict _, _, h, _ => by simp [noB] at h
theorem eqv_noBs : ∀ (ds es : List PyData), noBs ds = true → noBs es = true → (PyData.eqvAll ds es = true ↔ ds = es)
  | [], [], _, _ => by simp [PyData.eqvAll]
  | [], _ :: _, _, _ => by simp [PyData.eqvAll]
  | _ :: _, [], _, _ => by simp [PyData.eqvAll]
  | d :: ds, e :: es, h, g => by
    rw [noBs, Bool.and_eq_true] at h g
    rw [PyData.eqvAll, Bool.and_eq_true, eqv_noB d e h.1 g.1, eqv_noBs ds es h.2 g.2]
    exact ⟨fun ⟨a, b⟩ => by rw [a, b], fun z => List.cons.inj z⟩
end
theorem noB_ints : ∀ l : List Int, noBs (l.map PyData.int) = true
  | [] => by rw [List.map_nil, noBs]
  | i :: r => by rw [List.map_cons, noBs, noB_ints r, noB]; rfl
theorem noB_LI (l : List Int) : noB (LI l) = true := by rw [noB, noB_ints]
mutual
theorem noB_S : ∀ s : Stm, noB (toD s) = true
  | .set k r => by rw [toD, noB, noBs, noBs, noBs, noBs, noB_LI, noB, noB]; rfl
  | .carry r => by rw [toD, noB, noBs, noBs, noBs, noB_LI, noB]; rfl
  | .fin w => by rw [toD, noB, noBs, noBs, noBs, noB, noB]; rfl
  | .keep cs x => by rw [toD, noB, noBs, noBs, noBs, noBs, noB_LI, noB, noB, noB_L x]; rfl
  | .again x => by rw [toD, noB, noBs, noBs, noBs, noB, noB, noB_L x]; rfl
  | .either x y => by rw [toD, noB, noBs, noBs, noBs, noBs, noB, noB, noB, noB_L x, noB_L y]; rfl
  | .call p r x y => by rw [toD, noB, noBs, noBs, noBs, noBs, noBs, noB_LI, noB, noB, noB, noBs, noBs, noBs, noB, noB, noB_L x, noB_L y]; rfl
theorem noB_L : ∀ ss : List Stm, noBs (toDs ss) = true
  | [] => by rw [toDs, noBs]
  | s :: r => by rw [toDs, noBs, noB_S s, noB_L r]; rfl
end
theorem noB_Bs : ∀ bs : List (List Stm), noBs (bs.map bD) = true
  | [] => by rw [List.map_nil, noBs]
  | b :: r => by rw [List.map_cons, noBs, noB_Bs r, bD, noB, noB_L]; rfl
theorem noB_B (bs : List (List Stm)) : noB (toB bs) = true := by rw [toB, noB, noB_Bs]
theorem ints_inj : ∀ {a b : List Int}, a.map PyData.int = b.map PyData.int → a = b
  | [], [], _ => rfl
  | [], _ :: _, h => by cases h
  | _ :: _, [], h => by cases h
  | i :: r, j :: u, h => by
    obtain ⟨h1, h2⟩ := List.cons.inj h
    rw [PyData.int.inj h1, ints_inj h2]
theorem LI_inj {a b : List Int} (h : LI a = LI b) : a = b := ints_inj (PyData.list.inj h)
theorem casts_inj : ∀ {a b : List Nat}, a.map (Nat.cast : Nat → Int) = b.map (Nat.cast : Nat → Int) → a = b
  | [], [], _ => rfl
  | [], _ :: _, h => by cases h
  | _ :: _, [], h => by cases h
  | i :: r, j :: u, h => by
    obtain ⟨h1, h2⟩ := List.cons.inj h
    rw [Int.ofNat.inj h1, casts_inj h2]
mutual
theorem toD_inj : ∀ (s t : Stm), toD s = toD t → s = t
  | .set k r, t, h => by
    cases t <;> rw [toD, toD] at h <;> first | exact absurd (PyData.str.inj (List.cons.inj (PyData.tuple.inj h)).1) (by decide) | skip
    have h := (List.cons.inj (PyData.tuple.inj h)).2
    rw [Int.ofNat.inj (PyData.int.inj (List.cons.inj h).1), LI_inj (List.cons.inj (List.cons.inj h).2).1]
  | .carry r, t, h => by
    cases t <;> rw [toD, toD] at h <;> first | exact absurd (PyData.str.inj (List.cons.inj (PyData.tuple.inj h)).1) (by decide) | skip
    have h := (List.cons.inj (PyData.tuple.inj h)).2
    rw [LI_inj (List.cons.inj h).1]
  | .fin w, t, h => by
    cases t <;> rw [toD, toD] at h <;> first | exact absurd (PyData.str.inj (List.cons.inj (PyData.tuple.inj h)).1) (by decide) | skip
    have h := (List.cons.inj (PyData.tuple.inj h)).2
    rw [Int.ofNat.inj (PyData.int.inj (List.cons.inj h).1)]
  | .keep cs x, t, h => by
    cases t <;> rw [toD, toD] at h <;> first | exact absurd (PyData.str.inj (List.cons.inj (PyData.tuple.inj h)).1) (by decide) | skip
    have h := (List.cons.inj (PyData.tuple.inj h)).2
    rw [casts_inj (LI_inj (List.cons.inj h).1), toDs_inj _ _ (PyData.list.inj (List.cons.inj (List.cons.inj h).2).1)]
  | .again x, t, h => by
    cases t <;> rw [toD, toD] at h <;> first | exact absurd (PyData.str.inj (List.cons.inj (PyData.tuple.inj h)).1) (by decide) | skip
    have h := (List.cons.inj (PyData.tuple.inj h)).2
    rw [toDs_inj _ _ (PyData.list.inj (List.cons.inj h).1)]
  | .either x y, t, h => by
    cases t <;> rw [toD, toD] at h <;> first | exact absurd (PyData.str.inj (List.cons.inj (PyData.tuple.inj h)).1) (by decide) | skip
    have h := (List.cons.inj (PyData.tuple.inj h)).2
    rw [toDs_inj _ _ (PyData.list.inj (List.cons.inj h).1), toDs_inj _ _ (PyData.list.inj (List.cons.inj (List.cons.inj h).2).1)]
  | .call p r x y, t, h => by
    cases t <;> rw [toD, toD] at h <;> first | exact absurd (PyData.str.inj (List.cons.inj (PyData.tuple.inj h)).1) (by decide) | skip
    have h := (List.cons.inj (PyData.tuple.inj h)).2
    have g := (List.cons.inj h).2
    have f := PyData.list.inj (List.cons.inj (List.cons.inj g).2).1
    rw [Int.ofNat.inj (PyData.int.inj (List.cons.inj h).1), LI_inj (List.cons.inj g).1, toDs_inj _ _ (PyData.list.inj (List.cons.inj f).1), toDs_inj _ _ (PyData.list.inj (List.cons.inj (List.cons.inj f).2).1)]
theorem toDs_inj : ∀ (ss ts : List Stm), toDs ss = toDs ts → ss = ts
  | [], [], _ => rfl
  | [], t :: r, h => by rw [toDs, toDs] at h; cases h
  | s :: r, [], h => by rw [toDs, toDs] at h; cases h
  | s :: r, t :: u, h => by
    rw [toDs, toDs] at h
    obtain ⟨h1, h2⟩ := List.cons.inj h
    rw [toD_inj s t h1, toDs_inj r u h2]
end
theorem toBs_inj : ∀ {a b : List (List Stm)}, a.map bD = b.map bD → a = b
  | [], [], _ => rfl
  | [], _ :: _, h => by cases h
  | _ :: _, [], h => by cases h
  | i :: r, j :: u, h => by
    obtain ⟨h1, h2⟩ := List.cons.inj h
    rw [toDs_inj _ _ (PyData.list.inj h1), toBs_inj h2]
theorem toB_inj {a b : List (List Stm)} (h : toB a = toB b) : a = b := toBs_inj (PyData.list.inj h)
/-- lists of bodies that differ are not equal by `==` -/
theorem eqv_toB_ne {a b : List (List Stm)} (h : a ≠ b) : PyData.eqv (toB a) (toB b) = false := by
  cases e : PyData.eqv (toB a) (toB b) with
  | false => rfl
  | true => exact absurd (toB_inj ((eqv_noB _ _ (noB_B _) (noB_B _)).mp e)) h
theorem eqv_toB_self (a : List (List Stm)) : PyData.eqv (toB a) (toB a) = true := (eqv_noB _ _ (noB_B _) (noB_B _)).mpr rfl
/-! ### one number of a row turned -/
theorem turnDs_snoc : ∀ (a : List PyData) (d : PyData) (b : Bool), turnDs (a ++ [d]) b = ((turnDs a b).1 ++ [(turnD d (turnDs a b).2).1], (turnD d (turnDs a b).2).2)
  | [], d, b => by
    have h : turnDs [d] b = ([(turnD d b).1], (turnD d b).2) := tcons (by rfl) (tnil _)
    rw [List.nil_append, h, tnil]; rfl
  | x :: r, d, b => by
    have h := turnDs_snoc r d (turnD x b).2
    have h2 : turnDs (x :: r) b = ((turnD x b).1 :: (turnDs r (turnD x b).2).1, (turnDs r (turnD x b).2).2) := tcons (by rfl) (by rfl)
    rw [List.cons_append, tcons (by rfl) h, h2]
    rfl
def bitV (b : Bool) : V := .int (if b = true then 1 else 0)
def flt (d : PyData) : Prop := isa d "list" = false ∧ isa d "tuple" = false
inductive Tk : PyData → Prop
  | flat {d : PyData} : flt d → Tk d
  | lst {ds : List PyData} : (∀ d, d ∈ ds → Tk d) → Tk (.list ds)
  | tup {w : Str} {r : List PyData} : (∀ d, d ∈ r → Tk d) → isT (.str w :: r) = false → Tk (.tuple (.str w :: r))
  | row {w : Str} {fl : List PyData} {i : Int} {r : List Int} : isT (.str w :: (fl ++ [LI (i :: r)])) = true → (∀ d, d ∈ fl → flt d) → Tk (.tuple (.str w :: (fl ++ [LI (i :: r)])))
theorem flt_int (i : Int) : flt (.int i) := ⟨rfl, rfl⟩
theorem flt_str (i : Str) : flt (.str i) := ⟨rfl, rfl⟩
theorem tk_LI (l : List Int) : Tk (LI l) := .lst fun d h => by
  obtain ⟨i, _, rfl⟩ := List.mem_map.mp h
  exact .flat (flt_int i)
theorem tk_list {ds : List PyData} (h : Tk (.list ds)) : ∀ d ∈ ds, Tk d := by
  cases h with
  | flat h => cases h.1
  | lst h => exact h
theorem tk_tup {ds : List PyData} (h : Tk (.tuple ds)) : (∃ w r, ds = .str w :: r) ∧ (∀ d ∈ ds, Tk d) ∧ (isT ds = true → ∃ w fl i r, ds = .str w :: (fl ++ [LI (i :: r)]) ∧ ∀ d ∈ fl, flt d) := by
  cases h with
  | flat h => cases h.2
  | @tup w r h g =>
    refine ⟨⟨w, r, rfl⟩, fun d hd => ?_, fun z => by rw [g] at z; cases z⟩
    rcases List.mem_cons.mp hd with rfl | hd
    · exact .flat (flt_str _)
    · exact h d hd
  | @row w fl i r g h =>
    refine ⟨⟨w, _, rfl⟩, fun d hd => ?_, fun _ => ⟨w, fl, i, r, rfl, h⟩⟩
    rcases List.mem_cons.mp hd with rfl | hd
    · exact .flat (flt_str _)
    · rcases List.mem_append.mp hd with hd | hd
      · exact .flat (h d hd)
      · rw [List.mem_singleton.mp hd]; exact tk_LI _
theorem mem2 {P : PyData → Prop} {a b : PyData} (h1 : P a) (h2 : P b) : ∀ d, d ∈ [a, b] → P d := fun d hd => by
  rcases List.mem_cons.mp hd with rfl | hd
  · exact h1
  · rw [List.mem_singleton.mp hd]; exact h2
theorem mem1 {P : PyData → Prop} {a : PyData} (h1 : P a) : ∀ d, d ∈ [a] → P d := fun d hd => by rw [List.mem_singleton.mp hd]; exact h1
theorem mem3 {P : PyData → Prop} {a b c : PyData} (h1 : P a) (h2 : P b) (h3 : P c) : ∀ d, d ∈ [a, b, c] → P d := fun d hd => by
  rcases List.mem_cons.mp hd with rfl | hd
  · exact h1
  · exact mem2 h2 h3 d hd
mutual
theorem tk_S {c m : Nat} : ∀ (s : Stm) (lv : Nat), okS c m s lv → Tk (toD s)
  | .set k r, lv, h => by
    rw [okS] at h
    obtain ⟨_, h, _⟩ := h
    cases r with
    | nil => simp at h
    | cons i r => exact Tk.row (fl := [.int (k : Int)]) (by rfl) (mem1 (flt_int _))
  | .carry r, lv, h => by
    rw [okS] at h
    obtain ⟨h, _⟩ := h
    cases r with
    | nil => simp at h
    | cons i r => exact Tk.row (fl := []) (by rfl) fun _ z => (nomatch z)
  | .fin w, lv, h => Tk.tup (mem1 (.flat (flt_int _))) (isT_no (by decide) (by decide))
  | .keep cs x, lv, h => by
    rw [okS] at h
    exact Tk.tup (mem2 (tk_LI _) (.lst (tk_L x _ h.2.2.2))) (isT_no (by decide) (by decide))
  | .again x, lv, h => by
    rw [okS] at h
    exact Tk.tup (mem1 (.lst (tk_L x _ h.2.2))) (isT_no (by decide) (by decide))
  | .either x y, lv, h => by
    rw [okS] at h
    exact Tk.tup (mem2 (.lst (tk_L x _ h.2.2.1)) (.lst (tk_L y _ h.2.2.2.2))) (isT_no (by decide) (by decide))
  | .call p r x y, lv, h => by
    rw [okS] at h
    exact Tk.tup (mem3 (.flat (flt_int _)) (tk_LI _) (.lst (mem2 (.lst (tk_L x _ h.2.2.2.2.1)) (.lst (tk_L y _ h.2.2.2.2.2.2))))) (isT_no (by decide) (by decide))
theorem tk_L {c m : Nat} : ∀ (ss : List Stm) (lv : Nat), okL c m ss lv → ∀ d, d ∈ toDs ss → Tk d
  | [], lv, h, d, hd => by rw [toDs] at hd; cases hd
  | s :: r, lv, h, d, hd => by
    rw [okL] at h
    rw [toDs] at hd
    rcases List.mem_cons.mp hd with rfl | hd
    · exact tk_S s lv h.1
    · exact tk_L r lv h.2 d hd
end
theorem tk_B {c m : Nat} {bs : List (List Stm)} (h : ∀ b ∈ bs, okB c m b) : Tk (toB bs) := .lst fun d hd => by
  obtain ⟨b, hb, rfl⟩ := List.mem_map.mp hd
  exact .lst (tk_L b 0 (h b hb).1)
abbrev s_law_turned : Stmt := topS 49
theorem sc_law_turned : FnScope ["value", "left", "row", "item"] ["value", "left"] (defScope s_law_turned) := ⟨rfl, rfl, rfl, by decide +kernel, rfl, by decide +kernel, by decide +kernel⟩
section
variable {P : Program} {w : World} {K : PySem.W.Frag} {mg : Str → Option Value} {base : Heap} {σ : L2.St} {H H' : Hp} {te tl ta : TE} {a lf : Addr}
theorem eu_cat {tr : TA} {xs ys : List V} (h1 : EvP ta σ H (TupIs K xs)) (h : EvA tr σ H ys) (hy : ys ≠ []) (l1 : xs.length ≤ 20000) (l2 : ys.length ≤ 1000) : EvU (tOp (rCatA K) ta (tTup tr)) σ H (xs ++ ys) := fun H1 e Q q =>
  h1 H1 e _ fun v H2 e2 ⟨a, hv, ha⟩ => h H2 (e.trans e2) _ fun H3 e3 => ⟨sz_of (by omega), fun T hT => by
    have eT := Ex.new (o := .tup ys) hT
    refine ⟨a, T, xs, ys, hv, rfl, ex_t (e3.trans eT) ha, st_of upd_same, sz_of (by omega), fun h0 => ?_, fun _ h0 => absurd h0 hy, fun _ _ T2 n2 => ?_⟩
    · refine q _ _ (fresh_back (e2.trans e3) hT) ((e2.trans e3).trans eT) ?_
      rw [h0, List.nil_append]
      exact upd_same
    · exact q _ _ (fresh_back ((e2.trans e3).trans eT) n2) (((e2.trans e3).trans eT).trans (Ex.new n2)) upd_same⟩
def spTurn (K : PySem.W.Frag) (n : Nat) : Sp := fun vs H Q _ => ∃ (lf : Addr) (v : V) (d : PyData) (m : Nat) (b : Bool), vs = [v, .ref lf] ∧ n = m + 1 ∧ H lf = some (.lst [bitV b]) ∧ Dp K (Ct lf H) v d ∧ fit d m = true ∧ Tk d ∧
  ∀ v' H', Oth lf H H' → H' lf = some (.lst [bitV (turnD d b).2]) → Dq (New H) H' v' (turnD d b).1 → Q v' H'
def TnOut (lf : Addr) (H1 : Hp) (ds : List PyData) (b : Bool) (Q : VK) : Prop := ∀ D ys H2, H1 D = none → Oth lf H1 H2 → H2 lf = some (.lst [bitV (turnDs ds b).2]) → H2 D = some (.lst ys) → DqAll (fun a => New H1 a ∧ a ≠ D) H2 ys (turnDs ds b).1 → Q (.ref D) H2
def TnI (lf D : Addr) (H1 : Hp) (ds : List PyData) (b : Bool) (i : Nat) (H' : Hp) : Prop := ∃ ys, Oth lf H1 H' ∧ H' lf = some (.lst [bitV (turnDs (ds.take i) b).2]) ∧ H' D = some (.lst ys) ∧ DqAll (fun a => New H1 a ∧ a ≠ D) H' ys (turnDs (ds.take i) b).1 ∧ ys.length = (ds.take i).length
theorem tn_turn {E : XK} {H1 : Hp} {D : Addr} {ds : List PyData} {b : Bool} {i m j : Nat} {x : V} {xs : List V} {σ' : L2.St} (h1 : H1 lf = some (.lst [bitV b])) (hD : H1 D = none) (hx : DpAll K (Ct lf H1) xs ds) (hl : ds.length ≤ 10000) (hf : fitAll ds m = true) (ht : ∀ d ∈ ds, Tk d)
    (hi : xs[i]? = some x) (s1 : σ'[j]? = some (some x)) (s2 : σ'[1]? = some (some (.ref lf))) (p : TnI lf D H1 ds b i H') :
    tCall (spTurn K (m + 1)) [] E (tCons (tVar j) (tCons (tVar 1) tNil)) σ' H' fun y H4 => ∃ acc, H4 D = some (.lst acc) ∧ acc.length < sizeLine ∧ TnI lf D H1 ds b (i + 1) (upd H4 D (.lst (acc ++ [y]))) := by
  obtain ⟨ys, o, hlf, hd, dq, ly⟩ := p
  obtain ⟨d, hdi, hp⟩ := dpa_at2 hx hi
  have hi2 : i < ds.length := (List.getElem?_eq_some_iff.mp hdi).1
  have hDl : D ≠ lf := fun z => by rw [z, h1] at hD; cases hD
  refine ⟨x, s1, .ref lf, s2, lf, x, d, m, _, rfl, rfl, hlf, dp_ex (ct_oth o) d x hp, fitAll_mem hf (List.mem_of_getElem? hdi), ht d (List.mem_of_getElem? hdi), fun v' H2 o2 hlf2 dq2 => ?_⟩
  refine ⟨ys, o2 _ _ hDl hd, ?_, ys ++ [v'], fun c u n hc => ?_, ?_, upd_same, ?_, ?_⟩
  · rw [ly, List.length_take]; exact sz_lt (by omega)
  · rw [upd_ne fun z => by rw [z, hD] at hc; cases hc]
    exact o2 _ _ n (o _ _ n hc)
  · rw [upd_ne hDl.symm, List.take_add_one, hdi]
    show H2 lf = some (.lst [bitV (turnDs (ds.take i ++ [d]) b).2])
    rw [turnDs_snoc]; exact hlf2
  · rw [List.take_add_one, hdi]
    show DqAll _ _ _ (turnDs (ds.take i ++ [d]) b).1
    rw [turnDs_snoc]
    refine dqa_app (dqa_to (fun _ h => h) (fun c u n hc => ?_) _ _ dq) (.cons (dq_to (fun c n => ⟨new_back o ⟨_, hlf⟩ n, new_ne n ⟨_, hd⟩⟩) (fun c u n hc => ?_) _ _ dq2) .nil)
    · rw [upd_ne n.2]
      exact o2 _ _ (new_ne n.1 ⟨_, h1⟩) hc
    · rw [upd_ne (new_ne n ⟨_, hd⟩)]; exact hc
  · rw [List.length_append, ly, List.take_add_one, hdi, List.length_append]; rfl
theorem ct_sl {xs l : List V} (hp : H lf = some (.lst l)) (o : Oth lf H H') (h : SqL K (Ct lf H) a xs) : SqL K H' a xs := ex_l (ct_of o) h
theorem lc_tnL {E : XK} {xs : List V} {ds : List PyData} {b : Bool} {j m : Nat} {vs : List Nat} (h : Ev tl σ H (.ref a)) (hlf : H lf = some (.lst [bitV b])) (hs : SqL K (Ct lf H) a xs) (hx : DpAll K (Ct lf H) xs ds) (hl : ds.length ≤ 10000) (hf : fitAll ds m = true) (ht : ∀ d ∈ ds, Tk d)
    (hw : ∀ x, wipe ((wipe σ vs).set j (some x)) vs = wipe σ vs) (s1 : ∀ x : V, ((wipe σ vs).set j (some x))[j]? = some (some x)) (s2 : ∀ x, ((wipe σ vs).set j (some x))[1]? = some (some (.ref lf))) {Q : VK} (k : TnOut lf H ds b Q) :
    tLc (iList K tl) (gName j) tYes (tCall (spTurn K (m + 1)) [] E (tCons (tVar j) (tCons (tVar 1) tNil))) vs σ H Q :=
  h H (Ex.refl H) _ fun H1 e1 => ⟨a, rfl, ⟨xs, ex_l (ct_of (.of e1)) hs⟩, fun D hD =>
    have h1 := e1 _ _ hlf
    have hDl : D ≠ lf := fun z => by rw [z, h1] at hD; cases hD
    lc_list (xs := xs) (TnI lf D H1 ds b) ⟨[], .of (Ex.new hD), by rw [List.take_zero, tnil, upd_ne hDl.symm]; exact h1, upd_same, by rw [List.take_zero, tnil]; exact .nil, rfl⟩ (fun i H' _ p => by
        obtain ⟨ys, o, _⟩ := p
        exact ex_l (ct_of ((Oth.of e1).trans o)) hs) (fun i x H' hi p => ⟨hw x, by
        show tCall (spTurn K (m + 1)) [] E (tCons (tVar j) (tCons (tVar 1) tNil)) _ _ _
        exact tn_turn h1 hD (dpa_ex (ct_mono e1) _ _ hx) hl hf ht hi (s1 x) (s2 x) p⟩)
      (fun H' p => by
        obtain ⟨ys, o, h2, hd, dq, _⟩ := p
        rw [dpa_len hx, List.take_length] at h2 dq
        exact k D ys H' (fresh_back e1 hD) ((Oth.of e1).trans o) h2 hd (dqa_to (fun a n => ⟨new_ex e1 n.1, n.2⟩) (fun _ _ _ h => h) _ _ dq))⟩
theorem lc_tnT {E : XK} {xs : List V} {ds : List PyData} {b : Bool} {j m : Nat} {vs : List Nat} (h : Ev tl σ H (.ref a)) (hlf : H lf = some (.lst [bitV b])) (hs : SqT K (Ct lf H) a xs) (hx : DpAll K (Ct lf H) xs ds) (hl : ds.length ≤ 10000) (hf : fitAll ds m = true) (ht : ∀ d ∈ ds, Tk d)
    (hw : ∀ x, wipe ((wipe σ vs).set j (some x)) vs = wipe σ vs) (s1 : ∀ x : V, ((wipe σ vs).set j (some x))[j]? = some (some x)) (s2 : ∀ x, ((wipe σ vs).set j (some x))[1]? = some (some (.ref lf))) {Q : VK} (k : TnOut lf H ds b Q) :
    tLc (iTup K tl) (gName j) tYes (tCall (spTurn K (m + 1)) [] E (tCons (tVar j) (tCons (tVar 1) tNil))) vs σ H Q :=
  h H (Ex.refl H) _ fun H1 e1 => ⟨a, rfl, ⟨xs, ex_t (ct_of (.of e1)) hs⟩, fun D hD =>
    have h1 := e1 _ _ hlf
    have hDl : D ≠ lf := fun z => by rw [z, h1] at hD; cases hD
    lc_tup (xs := xs) (TnI lf D H1 ds b) ⟨[], .of (Ex.new hD), by rw [List.take_zero, tnil, upd_ne hDl.symm]; exact h1, upd_same, by rw [List.take_zero, tnil]; exact .nil, rfl⟩ (fun i H' _ p => by
        obtain ⟨ys, o, _⟩ := p
        exact ex_t (ct_of ((Oth.of e1).trans o)) hs) (fun i x H' hi p => ⟨hw x, by
        show tCall (spTurn K (m + 1)) [] E (tCons (tVar j) (tCons (tVar 1) tNil)) _ _ _
        exact tn_turn h1 hD (dpa_ex (ct_mono e1) _ _ hx) hl hf ht hi (s1 x) (s2 x) p⟩)
      (fun H' p => by
        obtain ⟨ys, o, h2, hd, dq, _⟩ := p
        rw [dpa_len hx, List.take_length] at h2 dq
        exact k D ys H' (fresh_back e1 hD) ((Oth.of e1).trans o) h2 hd (dqa_to (fun a n => ⟨new_ex e1 n.1, n.2⟩) (fun _ _ _ h => h) _ _ dq))⟩
theorem inw (w : Str) (r : List PyData) : inV (.str w) [.str (Str.ofString "set"), .str (Str.ofString "carry")] = isT (.str w :: r) := by
  have h : ∀ x : Str, (x == w) = decide (w = x) := fun x => by
    by_cases z : w = x
    · rw [decide_eq_true z, z]; exact beq_self_eq_true x
    · rw [decide_eq_false z]; exact beq_eq_false_iff_ne.mpr fun y => z y.symm
  rw [isT, inV, List.any_cons, List.any_cons, List.any_nil, Bool.or_false]
  show ((_ == w) || (_ == w)) = _
  rw [h, h]
theorem bit0 (b : Bool) : decide (bitV b = V.int 0) = !b := by cases b <;> rfl
theorem dpa_app' : ∀ {xs : List V} {a b : List PyData}, DpAll K H xs (a ++ b) → ∃ x1 x2, xs = x1 ++ x2 ∧ DpAll K H x1 a ∧ DpAll K H x2 b
  | xs, [], b, h => ⟨[], xs, rfl, .nil, h⟩
  | _, d :: r, b, .cons h1 h2 => by
    obtain ⟨x1, x2, rfl, g1, g2⟩ := dpa_app' h2
    exact ⟨_ :: x1, x2, rfl, .cons h1 g1, g2⟩
theorem dqa_flt {N : Addr → Prop} : ∀ {xs : List V} {a : List PyData}, DpAll K H xs a → (∀ d ∈ a, flt d) → DqAll N H xs a
  | _, [], .nil, _ => .nil
  | _, d :: r, .cons h1 h2, h => .cons (flat_dq h1 (h d (List.mem_cons_self ..)).1 (h d (List.mem_cons_self ..)).2) (dqa_flt h2 fun d hd => h d (List.mem_cons_of_mem _ hd))
theorem dpa_vals : ∀ {xs : List V} {l : List Int}, DpAll K H xs (l.map PyData.int) → xs = l.map V.int
  | _, [], .nil => rfl
  | _, i :: r, .cons (.int _) h => by rw [List.map_cons, dpa_vals h]
theorem dp_LIv {v : V} {l : List Int} (h : Dp K H v (LI l)) : ∃ a, v = .ref a ∧ SqL K H a (l.map V.int) := by
  cases h with
  | lst s x => rw [dpa_vals x] at s; exact ⟨_, rfl, s⟩
theorem el_copyL {rp : Addr} {ys : List V} {ti : TE} (h : Ev ti σ H (.ref rp)) (hs : SqL K H rp ys) : EvL (tCB (rListS K) (tCons ti tNil)) σ H ys := el_cb (ea_cons h ea_nil) fun H1 e Q q => ⟨rp, ys, rfl, .inl (ex_l e hs), fun l hl => q l _ hl (Ex.new hl) upd_same⟩
theorem turnD_row {w : Str} {fl : List PyData} {i : Int} {r : List Int} (h : (isT (.str w :: (fl ++ [LI (i :: r)])) && !false) = true) : turnD (.tuple (.str w :: (fl ++ [LI (i :: r)]))) false = (.tuple ((.str w :: fl) ++ [LI ((if i = 1 then 0 else 1) :: r)]), true) := by
  rw [turnD, if_pos h]
  have e : (PyData.str w :: (fl ++ [LI (i :: r)])).length - 1 = (PyData.str w :: fl).length := by rw [List.length_cons, List.length_append, List.length_singleton, List.length_cons]; omega
  have g : (PyData.str w :: fl ++ [LI (i :: r)]).getD (PyData.str w :: fl).length PyData.none = LI (i :: r) := by
    rw [List.getD_eq_getElem?_getD, List.getElem?_append_right (Nat.le_refl _), Nat.sub_self]; rfl
  rw [e, ← List.cons_append, List.take_left' rfl, g]
  rfl
theorem ev_flip {b1 : TE} {i : Int} (h : Ev b1 σ H (.bl (decide (V.int i = V.int 1)))) : Ev (tOp (rIxL K) (tLst (tCons (tC (.int 1)) (tCons (tC (.int 0)) tNil))) (tCB (fun xs H Q => (∃ i, xs = [.int i] ∧ Q (.int i) H) ∨ ∃ k, xs = [.bl k] ∧ Q (.int (if k then 1 else 0)) H) (tCons b1 tNil))) σ H (.int (if i = 1 then 0 else 1)) := by
  have hk : decide (V.int i = V.int 1) = decide (i = 1) := by
    by_cases z : i = 1
    · rw [z]; rfl
    · rw [decide_eq_false z, decide_eq_false fun y => z (V.int.inj y)]
  rw [hk] at h
  refine ev_opL1 (y := .int (if decide (i = 1) = true then 1 else 0)) (el_lst (ea_cons ev_c (ea_cons ev_c ea_nil)) (by show 2 ≤ 100000; decide)) (fun H1 e1 => ev_cb (ea_cons (fun H2 e2 => h H2 (e1.trans e2)) ea_nil) fun H2 _ _ q => .inr ⟨_, rfl, q H2 (Ex.refl _)⟩) fun p H1 hp _ => rv_ixL (sq_of hp) ?_
  by_cases z : i = 1
  · rw [decide_eq_true z, if_pos z]; rfl
  · rw [decide_eq_false z, if_neg z]; rfl
theorem flipD_row (i : Int) (r : List Int) : flipD (LI (i :: r)) = LI ((if i = 1 then 0 else 1) :: r) := rfl
theorem turned_step {f : Addr} {fd : FuncData} {n : Nat} (F : Fun K "_law_turned" "_law_turned" s_law_turned f fd) (z_isinstance : mg "isinstance" = none) (z_list : mg "list" = none) (z_tuple : mg "tuple" = none) (z_int : mg "int" = none) (z_len : mg "len" = none) (C_law_turned : Cal P w K mg base n "_law_turned" (spTurn K n) []) :
    FnOk P w K mg base CX0 (n + 1) f fd ["value", "left"] (spTurn K (n + 1)) := by
  have sc := sc_law_turned
  refine F.ok sc (fun vs H Q E h => ?_) (fun cdv A outer s H vs Q E hr h => ?_)
  · obtain ⟨lf, v, d, m, b, rfl, _⟩ := h
    rfl
  · obtain ⟨lf, v, d, n', b, rfl, en, hlf, hv, hf, ht, q⟩ := h
    obtain rfl : n' = n := by omega
    refine ⟨_, (pss_cons (ps_if (PW.pt (pw_and (pt_val (pe_callB call_isi (by rfl) z_isinstance (by decide +kernel) (pa_cons (pv 0) (pa_cons (pe_bltn (v := .ty "tuple") (by rfl) z_tuple (by decide +kernel) rfl) pa_nil)))) (pw_and (pt_cmpR op_in_seq (pe_ix ix_tup (pv 0) pe_int (fun _ _ => rfl)) (pe_lst (pa_cons pe_str (pa_cons pe_str pa_nil))) (by rfl)) (pw_and1 (pt_cmpR op_eq (pe_ix ix_list (pv 1) pe_int (fun _ _ => rfl)) pe_int (nomark _))))))
      (pss_cons (ps_asg pe_int (pg_sub (pv 1) pe_int set_list))
      (pss_cons (ps_set (i := 2) sc.nd rfl (by first | exact Or.inl rfl | exact Or.inr rfl) (pe_callTy call_list_of (by rfl) z_list (by decide +kernel) (pa_cons (pe_ix ix_tup (pv 0) (pe_op op_sub (pe_callB call_len_seq (by rfl) z_len (by decide +kernel) (pa_cons (pv 0) pa_nil)) pe_int) (fun _ _ => rfl)) pa_nil)))
      (pss_cons (ps_asg (pe_ix ix_list (pe_lst (pa_cons pe_int (pa_cons pe_int pa_nil))) (pe_callTy call_int1 (by rfl) z_int (by decide +kernel) (pa_cons (pe_cmpR op_eq (pe_ix ix_list (pv 2) pe_int (fun _ _ => rfl)) pe_int (nomark _)) pa_nil)) (fun _ _ => rfl)) (pg_sub (pv 2) pe_int set_list))
      (pss_one (ps_ret (pe_op op_catA (pe_slice sl_tup (pv 0) po_none (po_some (pe_op op_sub (pe_callB call_len_seq (by rfl) z_len (by decide +kernel) (pa_cons (pv 0) pa_nil)) pe_int))) (pe_tup (pa_cons (pv 2) pa_nil))))))))
      pss_nil)
      (pss_cons (ps_if (pt_val (pe_callB call_isi (by rfl) z_isinstance (by decide +kernel) (pa_cons (pv 0) (pa_cons (pe_bltn (v := .ty "list") (by rfl) z_list (by decide +kernel) rfl) pa_nil))))
      (pss_one (ps_ret (pe_lc (own := [("item", 3)]) (by rfl) sc.nd (pi_list (pv 0)) (blkOk_by (own := [("item", 3)]) (N := ["value", "left", "row", "item"]) (sc := defScope s_law_turned) (by decide +kernel)) (fun _ _ _ _ _ => (pg_name (i := 3) sc.nd rfl (by first | exact Or.inl rfl | exact Or.inr rfl))) (fun _ _ _ _ _ => pts_nil) (fun _ _ _ _ _ => (pe_c C_law_turned hr (by omega) (by rfl) (pa_cons (pv 3) (pa_cons (pv 1) pa_nil)))))))
      pss_nil)
      (pss_cons (ps_if (pt_val (pe_callB call_isi (by rfl) z_isinstance (by decide +kernel) (pa_cons (pv 0) (pa_cons (pe_bltn (v := .ty "tuple") (by rfl) z_tuple (by decide +kernel) rfl) pa_nil))))
      (pss_one (ps_ret (pe_callTy call_tuple_of (by rfl) z_tuple (by decide +kernel) (pa_cons (pe_lc (own := [("item", 3)]) (by rfl) sc.nd (pi_tup (pv 0)) (blkOk_by (own := [("item", 3)]) (N := ["value", "left", "row", "item"]) (sc := defScope s_law_turned) (by decide +kernel)) (fun _ _ _ _ _ => (pg_name (i := 3) sc.nd rfl (by first | exact Or.inl rfl | exact Or.inr rfl))) (fun _ _ _ _ _ => pts_nil) (fun _ _ _ _ _ => (pe_c C_law_turned hr (by omega) (by rfl) (pa_cons (pv 3) (pa_cons (pv 1) pa_nil))))) pa_nil))))
      pss_nil)
      (pss_one (ps_ret (pv 0)))))), ?_⟩
    have hvH : Dp K H v d := dp_ex ct_ex d v hv
    have kd := kitB_isa d
    cases et : isa d "tuple" with
    | false =>
      refine q_when (b := false) (et_is (et_and (a := false) (b := false) (et_is (et_B (ev_isi hvH (ev_var rfl) kd.2.2.2.2)) et) fun h => (nomatch h)) rfl) (fun h => (nomatch h)) fun _ H1 e1 => ?_
      refine q_when (et_B (ev_isi (dp_ex e1 _ _ hvH) (ev_var rfl) kd.2.2.2.1)) (fun hb H2 e2 => ?_) (fun hb H2 e2 => ?_)
      · have e12 := e1.trans e2
        obtain ⟨a, xs, ds, rfl, rfl, hs, hx⟩ := isa_list_t hv hb
        obtain ⟨m, em, lx, gx⟩ := fit_list hf
        subst em
        refine s_retR (lc_tnL (ev_var rfl) (e12 _ _ hlf) (ex_l (ct_mono e12) hs) (dpa_ex (ct_mono e12) _ _ hx) lx gx (tk_list ht) (fun _ => rfl) (fun _ => rfl) (fun _ => rfl) fun D ys H3 nD o3 h3 hD dq => ?_)
        refine q _ _ ((Oth.of e12).trans o3) (by rw [turnD]; exact h3) ?_
        rw [turnD]
        exact .lst (new_ex e12 nD) hD (dqa_to (fun a n => new_ex e12 n.1) (fun _ _ _ h => h) _ _ dq)
      · have e12 := e1.trans e2
        refine q_when (b := false) (et_is (et_B (ev_isi (dp_ex e12 _ _ hvH) (ev_var rfl) kd.2.2.2.2)) et) (fun h => (nomatch h)) fun _ H3 e3 => ?_
        refine s_ret (ev_var rfl) fun H4 e4 => ?_
        have e14 := (e12.trans e3).trans e4
        have hz : turnD d b = (d, b) := by
          cases d with
          | list _ => cases hb
          | tuple _ => cases et
          | _ => rw [turnD]
        refine q _ _ (.of e14) (by rw [hz]; exact e14 _ _ hlf) ?_
        rw [hz]
        exact flat_dq (dp_ex e14 _ _ hvH) hb et
    | true =>
      obtain ⟨a, xs, ds, rfl, rfl, hs, hx⟩ := isa_tuple_t hv et
      obtain ⟨m, em, lx, gx⟩ := fit_tuple hf
      subst em
      obtain ⟨⟨w0, r0, rfl⟩, tki, tkr⟩ := tk_tup ht
      obtain ⟨v0, vr, rfl, p0, hxr⟩ := dpa1 hx
      obtain rfl := dp_str p0
      have hsH : SqT K H a (.str w0 :: vr) := ex_t ct_ex hs
      refine q_when (b := isT (.str w0 :: r0) && !b) (et_is (et_and (et_B (ev_isi hvH (ev_var rfl) kd.2.2.2.2)) fun _ => et_and (et_test (ev_opL (ev_at (j := 0) (ev_var rfl) hsH rfl) (el_lst (ea_cons ev_c (ea_cons ev_c ea_nil)) (by show 2 ≤ 100000; decide)) fun p H1 hp e1 H2 e2 Q q => ⟨p, _, rfl, .inl (sq_of (e2 _ _ hp)), rfl, rfl, q H2 (Ex.refl _)⟩)) fun _ => et_test (ev_op (ev_op (ev_var rfl) ev_c (rv_ixL (i := 0) (v := bitV b) (sq_of hlf) rfl)) ev_c (rv_eq (by cases b <;> rfl)))) (by rw [et, Bool.true_and, bit0, ← inw w0 r0]; rfl)) (fun hc H1 e1 => ?_) (fun hc H1 e1 => ?_)
      · -- the row
        obtain ⟨hc1, hc2⟩ := Bool.and_eq_true_iff.mp hc
        obtain ⟨w1, fl, i, r, hd, hfl⟩ := tkr hc1
        obtain ⟨z1, z2⟩ := List.cons.inj hd
        obtain rfl := PyData.str.inj z1
        subst z2
        obtain ⟨x1, x2, rfl, g1, g2⟩ := dpa_app' hxr
        obtain ⟨v3, vr, rfl, p3, g3⟩ := dpa1 g2
        obtain rfl := dpa0 g3
        obtain ⟨rp, rfl, sr⟩ := dp_LIv p3
        obtain rfl : b = false := by cases b <;> first | rfl | cases hc2
        have lx1 : x1.length = fl.length := dpa_len g1
        rw [List.length_cons, List.length_append, List.length_singleton] at lx
        have lxs : (V.str w0 :: (x1 ++ [V.ref rp])).length = fl.length + 2 := by rw [List.length_cons, List.length_append, List.length_singleton, lx1]
        refine q_setL (l := lf) (xs := [bitV false]) (j := 0) (e1 _ _ hlf) ev_c (ev_var rfl) ev_c (by show 0 < 1; decide) fun H2 e2 => ?_
        have o3 : Oth lf H (upd H2 lf (.lst ([bitV false].set 0 (.int 1)))) := (Oth.of (e1.trans e2)).trans Oth.upd
        have h3 : upd H2 lf (.lst ([bitV false].set 0 (.int 1))) lf = some (.lst [bitV true]) := upd_same
        generalize upd H2 lf (.lst ([bitV false].set 0 (.int 1))) = H3 at o3 h3 ⊢
        have hs3 : SqT K H3 a (.str w0 :: (x1 ++ [.ref rp])) := ex_t (ct_of o3) hs
        refine q_asgL (xs := (i :: r).map V.int) (el_copyL (ev_op (ev_var rfl) (ev_op (ev_lenS (ev_var rfl) (.inr hs3)) ev_c rv_I0) (rv_ixT hs3 (at_of (j := fl.length + 1) (by rw [lxs]; omega) (by rw [List.getElem?_cons_succ, ← lx1, List.getElem?_append_right (Nat.le_refl _), Nat.sub_self]; rfl)))) (ex_l (ct_of o3) sr)) fun R H4 nR e4 hR => ?_
        refine q_setL (l := R) (xs := (i :: r).map V.int) (j := 0) hR (ev_flip (i := i) (ev_op (ev_op (ev_var rfl) ev_c (rv_ixL (i := ((0 : Nat) : Int)) (v := .int i) (sq_of hR) (atI_nat rfl))) ev_c (rv_eq rfl))) (ev_var rfl) ev_c (by rw [List.map_cons, List.length_cons]; omega) fun H5 e5 => ?_
        have nR0 : New H R := new_back o3 ⟨_, h3⟩ nR
        have eR : Ex H3 (upd H5 R (.lst (((i :: r).map V.int).set 0 (.int (if i = 1 then 0 else 1))))) := (e4.trans e5).mut nR
        have hR6 : upd H5 R (.lst (((i :: r).map V.int).set 0 (.int (if i = 1 then 0 else 1)))) R = some (.lst (((if i = 1 then 0 else 1) :: r).map V.int)) := upd_same
        generalize upd H5 R (.lst (((i :: r).map V.int).set 0 (.int (if i = 1 then 0 else 1)))) = H6 at eR hR6 ⊢
        refine s_retU (eu_cat (ti_init rfl (ex_t eR hs3) (by simp)) (ea_cons (ev_var rfl) ea_nil) (by simp) (by rw [List.length_take, lxs]; omega) (by show 1 ≤ 1000; decide)) fun T H7 nT e7 hT => ?_
        have o6 : Oth lf H H6 := o3.trans (.of eR)
        refine q _ _ (o6.trans (.of e7)) (by rw [turnD_row hc]; exact e7 _ _ (eR _ _ h3)) ?_
        rw [turnD_row hc]
        have ht1 : (V.str w0 :: (x1 ++ [V.ref rp])).take ((V.str w0 :: (x1 ++ [V.ref rp])).length - 1) = .str w0 :: x1 := by
          rw [lxs, show fl.length + 2 - 1 = (V.str w0 :: x1).length by rw [List.length_cons, lx1]; omega, ← List.cons_append, List.take_left']; rfl
        rw [ht1] at hT
        refine .tup (new_back o6 ⟨_, eR _ _ h3⟩ nT) hT (dqa_app (dqa_flt (K := K) (.cons (.str _) (dpa_ex (ct_of (o6.trans (.of e7))) _ _ g1)) fun d hd => ?_) (.cons (dq_LI nR0 (e7 _ _ hR6)) .nil))
        rcases List.mem_cons.mp hd with rfl | hd
        · exact flt_str _
        · exact hfl d hd
      · have hn : turnD (.tuple (.str w0 :: r0)) b = (.tuple (turnDs (.str w0 :: r0) b).1, (turnDs (.str w0 :: r0) b).2) := ttup hc rfl
        refine q_when (b := false) (et_B (ev_isi (dp_ex e1 _ _ hvH) (ev_var rfl) kd.2.2.2.1)) (fun h => (nomatch h)) fun _ H2 e2 => ?_
        have e12 := e1.trans e2
        refine q_when (b := true) (et_B (ev_isi (dp_ex e12 _ _ hvH) (ev_var rfl) kd.2.2.2.2)) (fun _ H3 e3 => ?_) fun h => (nomatch h)
        have e13 := e12.trans e3
        refine s_retR (cb_1 ?_)
        refine lc_tnT (ev_var rfl) (e13 _ _ hlf) (ex_t (ct_mono e13) hs) (dpa_ex (ct_mono e13) _ _ hx) lx gx tki (fun _ => rfl) (fun _ => rfl) (fun _ => rfl) fun D ys H4 nD o4 h4 hD dq => ?_
        refine ⟨D, ys, rfl, .inl ⟨sq_of hD, fun T nT => ?_⟩⟩
        have eT := Ex.new (o := .tup ys) nT
        have o := (Oth.of (p := lf) e13).trans o4
        refine q _ _ (o.trans (.of eT)) (by rw [hn]; exact eT _ _ h4) ?_
        rw [hn]
        exact .tup (new_back o ⟨_, h4⟩ nT) upd_same (dqa_to (fun a n => new_ex e13 n.1) (fun a u _ ha => eT _ _ ha) _ _ dq)
theorem ok_turned {f : Addr} {fd : FuncData} (F : Fun K "_law_turned" "_law_turned" s_law_turned f fd) (g : mg "_law_turned" = some (.ref f)) (b : Binds K fd ["value", "left"] []) (z_isinstance : mg "isinstance" = none) (z_list : mg "list" = none) (z_tuple : mg "tuple" = none) (z_int : mg "int" = none) (z_len : mg "len" = none) : ∀ n, FnOk P w K mg base CX0 n f fd ["value", "left"] (spTurn K n)
  | 0 => ⟨fun _ _ _ _ ⟨_, _, _, _, _, _, h, _⟩ => (nomatch h), fun _ _ _ _ _ _ _ _ _ _ _ _ _ ⟨_, _, _, _, _, _, h, _⟩ => (nomatch h)⟩
  | n + 1 => turned_step F z_isinstance z_list z_tuple z_int z_len ⟨f, fd, _, [], ok_turned F g b z_isinstance z_list z_tuple z_int z_len n, g, F.kp, b, .nil⟩
end
abbrev s_law_tells : Stmt := topS 50
theorem sc_law_tells : FnScope ["book", "cells", "bodies"] ["book", "cells", "bodies"] (defScope s_law_tells) := ⟨rfl, rfl, rfl, by decide +kernel, rfl, by decide +kernel, by decide +kernel⟩
abbrev s_law_shared_right : Stmt := topS 51
theorem sc_law_shared_right : FnScope ["pool", "cells", "row", "block", "body", "due", "book", "first", "second"] ["pool", "cells"] (defScope s_law_shared_right) := ⟨rfl, rfl, rfl, by decide +kernel, rfl, by decide +kernel, by decide +kernel⟩
open C8 (Mak pe_mk)
section
variable {P : Program} {w : World} {K : PySem.W.Frag} {mg : Str → Option Value} {base : Heap} {σ : L2.St} {H H' : Hp} {te ta tb tc : TE} {E : XK}
/-! ### data out of parts -/
def EvDs (K : PySem.W.Frag) (ta : TA) (σ : L2.St) (H : Hp) (ds : List PyData) : Prop := ∀ H1, Ex H H1 → ∀ Q : List V → Hp → Prop, (∀ vs H2, Ex H1 H2 → DpAll K H2 vs ds → Q vs H2) → ta σ H1 Q
theorem ed_nil : EvDs K tNil σ H [] := fun H1 _ _ q => q [] H1 (Ex.refl H1) .nil
theorem ed_cons {tr : TA} {d : PyData} {ds : List PyData} (h : EvP te σ H (DP K d)) (hr : EvDs K tr σ H ds) : EvDs K (tCons te tr) σ H (d :: ds) := fun H1 e _ q =>
  h H1 e _ fun v H2 e2 f => hr H2 (e.trans e2) _ fun vs H3 e3 g => q (v :: vs) H3 (e2.trans e3) (.cons (dp_ex e3 _ _ f) g)
theorem ep_lstD {tr : TA} {ds : List PyData} (h : EvDs K tr σ H ds) (hl : ds.length ≤ 100000) : EvP (tLst tr) σ H (DP K (.list ds)) := fun H1 e _ q =>
  h H1 e _ fun vs H2 e2 g => ⟨sz_of (by rw [dpa_len g]; exact hl), fun p hp => q _ _ (e2.trans (Ex.new hp)) (.lst (sq_of upd_same) (dpa_ex (Ex.new hp) _ _ g))⟩
theorem ep_tupD {tr : TA} {ds : List PyData} (h : EvDs K tr σ H ds) (hl : ds.length ≤ 100000) : EvP (tTup tr) σ H (DP K (.tuple ds)) := fun H1 e _ q =>
  h H1 e _ fun vs H2 e2 g => ⟨sz_of (by rw [dpa_len g]; exact hl), fun p hp => q _ _ (e2.trans (Ex.new hp)) (.tup (st_of upd_same) (dpa_ex (Ex.new hp) _ _ g))⟩
/-! ### books -/
def IsBk (K : PySem.W.Frag) (C : Addr) (c : Nat) (d : PyData) (v : V) (H : Hp) : Prop := ∃ X vb, v = .ref X ∧ BkO C H X c vb ∧ Dp K H vb d
theorem isBk_ex {C : Addr} {c : Nat} {d : PyData} {v : V} (e : Ex H H') (h : IsBk K C c d v H) : IsBk K C c d v H' := by
  obtain ⟨X, vb, rfl, ⟨dx, hx⟩, hd⟩ := h
  exact ⟨X, vb, rfl, ⟨dx, e _ _ hx⟩, dp_ex e _ _ hd⟩
theorem ep_book {C : Addr} {ok : Str → Prop} {c m : Nat} {bs : List (List Stm)} (o : okWords ok) (hc : Ev tc σ H (.int (c : Int))) (h : EvP te σ H (DP K (toB bs))) (c1 : 1 ≤ c) (c3 : c ≤ 3) (hl : bs.length = m) (m1 : 1 ≤ m) (m3 : m ≤ 3) (hok : ∀ b ∈ bs, okB c m b) :
    EvP (tMake C (spInit K ok C 15) [] E (tCons tc (tCons te tNil))) σ H (IsBk K C c (toB bs)) := fun H1 e1 Q q =>
  hc H1 e1 _ fun H2 e2 => h H2 (e1.trans e2) _ fun v H3 e3 dv => fun X dx hX hdx ne => by
    have hX1 : (upd H3 dx (.own X)) X = none := by rw [upd_ne ne.symm]; exact hX
    refine ⟨X, dx, v, bs.map bD, c, 14, H3, rfl, upd_same, hX, (Ex.new hdx).trans (Ex.new hX1), dv, toB_fit c3 (by omega) hok, rfl, c1, c3, toB_ok o hl m1 m3 hok, fun H7 e7 isb => ⟨rfl, ?_⟩⟩
    obtain ⟨dxx, vb, hX7, dqb⟩ := isb
    exact q _ _ ((e2.trans e3).trans e7) ⟨X, vb, rfl, ⟨dxx, hX7⟩, dq_dp _ _ dqb⟩
abbrev rEqB (K : PySem.W.Frag) (C : Addr) (E : XK) : R2 := fun x y H Q => ∃ a b dx dy fs gs, x = .ref a ∧ y = .ref b ∧ H a = some (.ins C dx fs) ∧ H b = some (.ins C dy gs) ∧ spEqB K C [.ref a, .ref b] H (fun v H' => ∃ t, v = .bl t ∧ Q (.bl t) H') E
theorem ev_eqB {C : Addr} {c c' : Nat} {d d' : PyData} (h1 : EvP ta σ H (IsBk K C c d)) (h2 : EvP tb σ H (IsBk K C c' d')) (sd : SeqAt.shaped d = true) (sd' : SeqAt.shaped d' = true) : Ev (tOp (rEqB K C E) ta tb) σ H (.bl (decide (c = c') && PyData.eqv d d')) := fun H1 e1 Q q =>
  h1 H1 e1 _ fun x H2 e2 f => h2 H2 (e1.trans e2) _ fun y H3 e3 g => by
    obtain ⟨X, vb, rfl, ⟨dx, hx⟩, hd⟩ := f
    obtain ⟨Y, vc, rfl, ⟨dy, hy⟩, hd'⟩ := g
    exact ⟨X, Y, dx, dy, _, _, rfl, rfl, e3 _ _ hx, hy, X, Y, c, c', vb, vc, d, d', rfl, ⟨dx, e3 _ _ hx⟩, ⟨dy, hy⟩, dp_ex e3 _ _ hd, hd', sd, sd', fun H4 e4 => ⟨_, rfl, q _ ((e2.trans e3).trans e4)⟩⟩
theorem ev_bkcells {C X : Addr} {c i : Nat} {v : V} (h : σ[i]? = some (some (.ref X))) (hx : BkO C H X c v) : Ev (tMeth C "cells" (spBkCells C) [] E (tVar i) tNil) σ H (.int (c : Int)) := fun H1 e1 Q q => by
  obtain ⟨dx, hx⟩ := hx
  exact ⟨.ref X, h, X, dx, _, rfl, e1 _ _ hx, rfl, X, c, v, rfl, ⟨dx, e1 _ _ hx⟩, q⟩
theorem ev_bklen {C X : Addr} {c i : Nat} {v : V} {ds : List PyData} (h : σ[i]? = some (some (.ref X))) (hx : BkO C H X c v) (hd : Dp K H v (.list ds)) (hl : ds.length ≤ 10000) :
    Ev (tCB (fun xs H Q => ∃ a dx fs, xs = [.ref a] ∧ H a = some (.ins C dx fs) ∧ spLen K C [.ref a] H (fun v H' => ∃ n : Nat, n < 4611686018427387904 ∧ v = .int (n : Int) ∧ Q (.int (n : Int)) H') E) (tCons (tVar i) tNil)) σ H (.int (ds.length : Int)) := fun H1 e1 Q q => by
  obtain ⟨dx, hx⟩ := hx
  obtain ⟨b, xs, rfl, hb, hxs⟩ := dp_lst hd
  have lx := dpa_len hxs
  exact ⟨.ref X, h, X, dx, _, rfl, e1 _ _ hx, X, c, b, xs, rfl, ⟨dx, e1 _ _ hx⟩, ex_l e1 hb, fun H2 e2 => ⟨xs.length, by omega, rfl, by rw [lx]; exact q H2 e2⟩⟩
/-- bodies(), each list at one new place -/
def EvT0 (te : TE) (σ : L2.St) (H : Hp) (d : PyData) : Prop := CpAtT te σ H d
theorem ep_of_T {d : PyData} (h : CpAtT te σ H d) : EvP te σ H (DP K d) := fun H1 e Q q => h H1 e Q fun v H2 e2 x => q v H2 e2 (dq_dp _ _ (dt_dq _ _ _ x))
theorem cpT_bds {C X : Addr} {c i : Nat} {v : V} {d : PyData} (h : σ[i]? = some (some (.ref X))) (hx : BkO C H X c v) (hd : Dp K H v d) (hf : fit d 14 = true) : CpAtT (tMeth C "bodies" (spBdsT K C 15) [] E (tVar i) tNil) σ H d := fun H1 e1 Q q => by
  obtain ⟨dx, hx⟩ := hx
  exact ⟨.ref X, h, X, dx, _, rfl, e1 _ _ hx, rfl, X, c, v, d, 14, rfl, ⟨dx, e1 _ _ hx⟩, dp_ex e1 _ _ hd, hf, rfl, q⟩
/-! ### what a book tells -/
def spTells (K : PySem.W.Frag) (C : Addr) : Sp := fun vs H Q _ => ∃ (X : Addr) (c : Nat) (v B : V) (ds : List PyData), vs = [.ref X, .int (c : Int), B] ∧ BkO C H X c v ∧ Dp K H v (.list ds) ∧ Dp K H B (.list ds) ∧ fit (.list ds) 14 = true ∧ ∀ H', Ex H H' → Q (.bl true) H'
theorem ok_tells {C f fc fl fb : Addr} {fd fdc fdl fdb : FuncData} {k : Nat} (F : Fun K "_law_tells" "_law_tells" s_law_tells f fd) (hcB : Cls K C)
    (Fcells : FnOk P w K mg base CX0 1 fc fdc ["self"] (spBkCells C)) (mcells : Meth K C "cells" fc) (bcells : Binds K fdc ["self"] [])
    (Fbds : FnOk P w K mg base CX0 16 fb fdb ["self"] (spBdsT K C 15)) (mbds : Meth K C "bodies" fb) (bbds : Binds K fdb ["self"] [])
    (Flen : FnOk P w K mg base CX0 1 fl fdl ["self"] (spLen K C)) (slen : PySem.W.findIn K (.ref C) "__len__" = some (some (.ref fl))) (ilen : PySem.W.isFn K (.ref fl) = true) (blen : Binds K fdl ["self"] []) (z_len : mg "len" = none)
    (C_law_same : Cal P w K mg base 15 "_law_same" (spSame K 15) []) (hk : 16 ≤ k) : FnOk P w K mg base CX0 (k + 1) f fd ["book", "cells", "bodies"] (spTells K C) := by
  have sc := sc_law_tells
  refine F.ok sc (fun vs H Q E h => ?_) (fun cdv A outer s H vs Q E hr h => ?_)
  · obtain ⟨X, c, v, B, ds, rfl, _⟩ := h
    rfl
  · obtain ⟨X, c, v, B, ds, rfl, hx, hd, hB, hf, q⟩ := h
    refine ⟨_, (pss_cons (ps_if (pt_not (pt_val (pe_c C_law_same hr (by omega) (by rfl) (pa_cons (pe_lst (pa_cons (pe_meth0 (pv 0) hcB mcells Fcells (hr.mono (by omega)) bcells .nil pass0) (pa_cons (pe_callB (call_lenOwn Flen slen ilen blen (hr.mono (by omega)) pass0) (by rfl) z_len (by decide +kernel) (pa_cons (pv 0) pa_nil)) pa_nil))) (pa_cons (pe_lst (pa_cons (pv 1) (pa_cons (pe_callB call_len_seq (by rfl) z_len (by decide +kernel) (pa_cons (pv 2) pa_nil)) pa_nil))) pa_nil)))))
      (pss_one (ps_ret pe_bl))
      pss_nil)
      (pss_one (ps_ret (pe_c C_law_same hr (by omega) (by rfl) (pa_cons (pe_meth0 (pv 0) hcB mbds Fbds (hr.mono (by omega)) bbds .nil pass0) (pa_cons (pv 2) pa_nil)))))), ?_⟩
    obtain ⟨m, em, lx, gx⟩ := fit_list hf
    obtain ⟨b, xs, rfl, hb, hxs⟩ := dp_lst hB
    have lxs := dpa_len hxs
    refine q_same (d := .list [.int (c : Int), .int (ds.length : Int)]) (n := 14) (ep_lstD (ed_cons (ep_dp (ev_bkcells rfl hx) (.int _)) (ed_cons (ep_dp (ev_bklen rfl hx hd lx) (.int _)) ed_nil)) (by show 2 ≤ 100000; decide))
      (ep_lstD (ed_cons (ep_dp (ev_var rfl) (.int _)) (ed_cons (ep_dp (ev_is (ev_lenS (ev_var rfl) (.inl hb)) (by rw [lxs])) (.int _)) ed_nil)) (by show 2 ≤ 100000; decide)) (by simp [fit, fitAll]) fun H1 e1 => ?_
    obtain ⟨dx, hx⟩ := hx
    exact s_ret (ev_same (ep_of_T (cpT_bds rfl ⟨dx, e1 _ _ hx⟩ (dp_ex e1 _ _ hd) hf)) (ep_dp (ev_var rfl) (dp_ex e1 _ _ (Dp.lst hb hxs))) hf) fun H2 e2 => q H2 (e1.trans e2)
/-! ### lists at one place, spoiled -/
theorem ep_longer {d : PyData} {i : Nat} {v : V} (h : σ[i]? = some (some v)) (hd : Dp K H v d) (hf : fit d 14 = true) : EvP (tCall (spLong K 15) [] E (tCons (tVar i) tNil)) σ H (DP K (lgr d)) := fun H1 e1 Q q =>
  lg_call (n := 15) rfl (ev_var h) hd hf H1 e1 Q fun v' H2 e2 dq => q v' H2 e2 (dq_dp _ _ dq)
theorem ep_lcopied {d : PyData} {i : Nat} {v : V} (h : σ[i]? = some (some v)) (hd : Dp K H v d) (hf : fit d 14 = true) : EvP (tCall (spCopyT K 15) [] E (tCons (tVar i) tNil)) σ H (DP K d) := ep_of_T (cpT_call (n := 15) rfl (ev_var h) hd hf)
theorem ep_lcopiedP {d : PyData} {ti : TE} (h : EvP ti σ H (DP K d)) (hf : fit d 14 = true) : EvP (tCall (spCopyT K 15) [] E (tCons ti tNil)) σ H (DP K d) := fun H1 e1 Q q =>
  h H1 e1 _ fun v H2 e2 f => ⟨v, d, 14, rfl, rfl, f, hf, fun v' H3 e3 x => q v' H3 (e2.trans e3) (dq_dp _ _ (dt_dq _ _ _ x))⟩
/-- the spoiling of what stands at N alone -/
theorem q_spoil {D : Ends} {tz : TS} {i : Nat} {v : V} {d : PyData} {N : Addr → Prop} (h : σ[i]? = some (some v)) (hv : Dt H N v d) (hf : fit d 14 = true) (k : ∀ H', (∀ a o, ¬ N a → H a = some o → H' a = some o) → Dt H' N v (lgr d) → tz D σ H') :
    tSeq (tDrop (tCall (spSpoil 15) [] E (tCons (tVar i) tNil))) tz D σ H := ⟨v, h, v, d, N, 14, rfl, rfl, hv, hf, fun H' k1 k2 => k H' k1 k2⟩
def spShr : Sp := fun vs H Q _ => ∃ (p q : Addr) (c : Nat), vs = [.ref p, .int (c : Int)] ∧ 1 ≤ c ∧ c ≤ 3 ∧ Pool H p q ∧ ∀ H', Oth p H H' → Pool H' p q → Q (.bl true) H'
theorem okB_shared {c : Nat} {r : List Int} (c1 : 1 ≤ c) (h : okR c r) : okB c 2 [.either [.carry r, .set 0 r] [.carry r, .set 0 r], .again [.carry r, .set 0 r], .carry r] := by
  have hb : ∀ lv, okL c 2 [.carry r, .set 0 r] lv := fun lv => by
    rw [okL, okL, okL, okS, okS]; exact ⟨h, ⟨by omega, h⟩, trivial⟩
  refine ⟨?_, by show 3 ≤ 8; decide, ?_⟩
  · rw [okL, okL, okL, okL, okS, okS, okS]
    exact ⟨⟨by decide, by show 2 ≤ 8; decide, hb _, by show 2 ≤ 8; decide, hb _⟩, ⟨by decide, by show 2 ≤ 8; decide, hb _⟩, h, trivial⟩
  · simp only [cntL, cnt]; decide
theorem ok_shared {C f fb : Addr} {fd fdb : FuncData} {k : Nat} {ok : Str → Prop} (F : Fun K "_law_shared_right" "_law_shared_right" s_law_shared_right f fd) (o7 : okWords ok) (hcB : Cls K C)
    (Fbds : FnOk P w K mg base CX0 16 fb fdb ["self"] (spBdsT K C 15)) (mbds : Meth K C "bodies" fb) (bbds : Binds K fdb ["self"] [])
    (C_law_row : Cal P w K mg base 2 "_law_row" spRow []) (C_law_copied : Cal P w K mg base 15 "_law_copied" (spCopyT K 15) []) (CBook : Mak P w K mg base 16 "Book" C (spInit K ok C 15) [])
    (C_law_same : Cal P w K mg base 15 "_law_same" (spSame K 15) []) (C_law_longer : Cal P w K mg base 15 "_law_longer" (spLong K 15) []) (C_law_spoiled : Cal P w K mg base 15 "_law_spoiled" (spSpoil 15) []) (C_law_tells : Cal P w K mg base 17 "_law_tells" (spTells K C) []) (hk : 17 ≤ k) : FnOk P w K mg base CX0 (k + 1) f fd ["pool", "cells"] spShr := by
  have sc := sc_law_shared_right
  refine F.ok sc (fun vs H Q E h => ?_) (fun cdv A outer s H vs Q E hr h => ?_)
  · obtain ⟨p, q0, c, rfl, _⟩ := h
    rfl
  · obtain ⟨p, q0, c, rfl, c1, c3, x, q⟩ := h
    refine ⟨_, (pss_cons (ps_set (i := 2) sc.nd rfl (by first | exact Or.inl rfl | exact Or.inr rfl) (pe_c C_law_row hr (by omega) (by rfl) (pa_cons (pv 0) (pa_cons (pv 1) pa_nil))))
      (pss_cons (ps_set (i := 3) sc.nd rfl (by first | exact Or.inl rfl | exact Or.inr rfl) (pe_lst (pa_cons (pe_tup (pa_cons pe_str (pa_cons (pv 2) pa_nil))) (pa_cons (pe_tup (pa_cons pe_str (pa_cons pe_int (pa_cons (pv 2) pa_nil)))) pa_nil))))
      (pss_cons (ps_set (i := 4) sc.nd rfl (by first | exact Or.inl rfl | exact Or.inr rfl) (pe_lst (pa_cons (pe_tup (pa_cons pe_str (pa_cons (pv 3) (pa_cons (pv 3) pa_nil)))) (pa_cons (pe_tup (pa_cons pe_str (pa_cons (pv 3) pa_nil))) (pa_cons (pe_tup (pa_cons pe_str (pa_cons (pv 2) pa_nil))) pa_nil)))))
      (pss_cons (ps_set (i := 5) sc.nd rfl (by first | exact Or.inl rfl | exact Or.inr rfl) (pe_c C_law_copied hr (by omega) (by rfl) (pa_cons (pe_lst (pa_cons (pv 4) (pa_cons (pv 4) pa_nil))) pa_nil)))
      (pss_cons (ps_set (i := 6) sc.nd rfl (by first | exact Or.inl rfl | exact Or.inr rfl) (pe_mk CBook hr (by omega) (by rfl) (pa_cons (pv 1) (pa_cons (pe_lst (pa_cons (pv 4) (pa_cons (pv 4) pa_nil))) pa_nil))))
      (pss_cons (ps_set (i := 7) sc.nd rfl (by first | exact Or.inl rfl | exact Or.inr rfl) (pe_meth0 (pv 6) hcB mbds Fbds (hr.mono (by omega)) bbds .nil pass0))
      (pss_cons (ps_set (i := 8) sc.nd rfl (by first | exact Or.inl rfl | exact Or.inr rfl) (pe_meth0 (pv 6) hcB mbds Fbds (hr.mono (by omega)) bbds .nil pass0))
      (pss_cons (ps_expr (pe_c C_law_spoiled hr (by omega) (by rfl) (pa_cons (pv 7) pa_nil)))
      (pss_cons (ps_if (PW.pt (pw_or (pt_not (pt_val (pe_c C_law_same hr (by omega) (by rfl) (pa_cons (pv 7) (pa_cons (pe_c C_law_longer hr (by omega) (by rfl) (pa_cons (pv 5) pa_nil)) pa_nil))))) (pw_or1 (pt_not (pt_val (pe_c C_law_same hr (by omega) (by rfl) (pa_cons (pv 8) (pa_cons (pv 5) pa_nil))))))))
      (pss_one (ps_ret pe_bl))
      pss_nil)
      (pss_cons (ps_expr (pe_c C_law_spoiled hr (by omega) (by rfl) (pa_cons (pv 8) pa_nil)))
      (pss_cons (ps_if (PW.pt (pw_or (pt_not (pt_val (pe_c C_law_same hr (by omega) (by rfl) (pa_cons (pv 8) (pa_cons (pe_c C_law_longer hr (by omega) (by rfl) (pa_cons (pv 5) pa_nil)) pa_nil))))) (pw_or1 (pt_not (pt_val (pe_c C_law_tells hr (by omega) (by rfl) (pa_cons (pv 6) (pa_cons (pv 1) (pa_cons (pv 5) pa_nil)))))))))
      (pss_one (ps_ret pe_bl))
      pss_nil)
      (pss_one (ps_ret (pe_c C_law_same hr (by omega) (by rfl) (pa_cons (pe_lst (pa_cons (pv 3) (pa_cons (pe_ix ix_list (pv 4) pe_int (fun _ _ => rfl)) pa_nil))) (pa_cons (pe_lst (pa_cons (pe_lst (pa_cons (pe_tup (pa_cons pe_str (pa_cons (pv 2) pa_nil))) (pa_cons (pe_tup (pa_cons pe_str (pa_cons pe_int (pa_cons (pv 2) pa_nil)))) pa_nil))) (pa_cons (pe_tup (pa_cons pe_str (pa_cons (pv 3) (pa_cons (pv 3) pa_nil)))) pa_nil))) pa_nil)))))))))))))))), ?_⟩
    -- row
    refine q_run ?_
    refine ⟨.ref p, rfl, .int (c : Int), rfl, p, q0, c, rfl, c3, x, fun r R H1 okr nR o1 x1 hR => ?_⟩
    have okb := okB_shared c1 okr
    have dR : ∀ {H'}, Ex H1 H' → Dp K H' (.ref R) (LI r) := fun e => .lst (sq_of (e _ _ hR)) (dpa_ints r)
    have hok2 : ∀ b ∈ [[Stm.either [.carry r, .set 0 r] [.carry r, .set 0 r], .again [.carry r, .set 0 r], .carry r], [.either [.carry r, .set 0 r] [.carry r, .set 0 r], .again [.carry r, .set 0 r], .carry r]], okB c 2 b := fun b hb => by
      rcases List.mem_cons.mp hb with rfl | hb
      · exact okb
      · rw [List.mem_singleton.mp hb]; exact okb
    have hfB := toB_fit c3 (by show 2 ≤ 10000; decide) hok2
    have hfL : fit (lgr (toB [[Stm.either [.carry r, .set 0 r] [.carry r, .set 0 r], .again [.carry r, .set 0 r], .carry r], [.either [.carry r, .set 0 r] [.carry r, .set 0 r], .again [.carry r, .set 0 r], .carry r]])) 14 = true := fit_lgr _ _ hfB (by
      rw [toB, wid]
      have := wid_B c3 _ hok2
      rw [List.length_map]
      simp only [List.length_cons, List.length_nil] at this ⊢
      omega)
    -- block
    have epBlock : ∀ {σ : L2.St} {H : Hp} {i : Nat}, Ex H1 H → σ[i]? = some (some (.ref R)) → EvP (tLst (tCons (tTup (tCons (tC (.str "carry")) (tCons (tVar i) tNil))) (tCons (tTup (tCons (tC (.str "set")) (tCons (tC (.int 0)) (tCons (tVar i) tNil)))) tNil))) σ H (DP K (bD [.carry r, .set 0 r])) := fun e h =>
      ep_lstD (ed_cons (ep_tupD (ed_cons (ep_dp ev_c (.str _)) (ed_cons (ep_dp (ev_var h) (dR e)) ed_nil)) (by show 2 ≤ 100000; decide)) (ed_cons (ep_tupD (ed_cons (ep_dp ev_c (.str _)) (ed_cons (ep_dp ev_c (.int 0)) (ed_cons (ep_dp (ev_var h) (dR e)) ed_nil))) (by show 3 ≤ 100000; decide)) ed_nil)) (by show 2 ≤ 100000; decide)
    refine q_run (epBlock (Ex.refl _) rfl H1 (Ex.refl _) _ fun bl H2 e2 dbl => ?_)
    -- body
    refine q_run (ep_lstD (ds := toDs [.either [.carry r, .set 0 r] [.carry r, .set 0 r], .again [.carry r, .set 0 r], .carry r]) (ed_cons (ep_tupD (ed_cons (ep_dp ev_c (.str _)) (ed_cons (ep_dp (ev_var rfl) dbl) (ed_cons (ep_dp (ev_var rfl) dbl) ed_nil))) (by show 3 ≤ 100000; decide))
      (ed_cons (ep_tupD (ed_cons (ep_dp ev_c (.str _)) (ed_cons (ep_dp (ev_var rfl) dbl) ed_nil)) (by show 2 ≤ 100000; decide)) (ed_cons (ep_tupD (ed_cons (ep_dp ev_c (.str _)) (ed_cons (ep_dp (ev_var rfl) (dR e2)) ed_nil)) (by show 2 ≤ 100000; decide)) ed_nil))) (by show 3 ≤ 100000; decide) H2 (Ex.refl _) _ fun bo H3 e3 dbo => ?_)
    have e13 := e2.trans e3
    have two : ∀ {σ : L2.St} {H : Hp} {i : Nat}, Ex H3 H → σ[i]? = some (some bo) → EvP (tLst (tCons (tVar i) (tCons (tVar i) tNil))) σ H (DP K (toB [[Stm.either [.carry r, .set 0 r] [.carry r, .set 0 r], .again [.carry r, .set 0 r], .carry r], [Stm.either [.carry r, .set 0 r] [.carry r, .set 0 r], .again [.carry r, .set 0 r], .carry r]])) := fun e h => ep_lstD (ed_cons (ep_dp (ev_var h) (dp_ex e _ _ dbo)) (ed_cons (ep_dp (ev_var h) (dp_ex e _ _ dbo)) ed_nil)) (by show 2 ≤ 100000; decide)
    refine q_run (ep_lcopiedP (two (Ex.refl _) rfl) hfB H3 (Ex.refl _) _ fun du H4 e4 ddu => ?_)
    refine q_run (ep_book (m := 2) o7 (ev_var rfl) (two e4 rfl) c1 c3 rfl (by decide) (by decide) hok2 H4 (Ex.refl _) _ fun bk H5 e5 ibk => ?_)
    obtain ⟨X, vb, rfl, hX, hvb⟩ := ibk
    refine q_run (cpT_bds rfl hX hvb hfB H5 (Ex.refl _) _ fun v1 H6 e6 t1 => ?_)
    have bko : ∀ {H'}, Ex H5 H' → BkO C H' X c vb := fun e => by
      obtain ⟨dx, hX⟩ := hX
      exact ⟨dx, e _ _ hX⟩
    refine q_run (cpT_bds rfl (bko e6) (dp_ex e6 _ _ hvb) hfB H6 (Ex.refl _) _ fun v2 H7 e7 t2 => ?_)
    -- the first is spoiled
    refine q_spoil rfl (dt_to _ _ _ _ (fun _ n => n) (fun a o _ ha => e7 _ _ ha) (dt_dom _ _ _ t1)) hfB fun H8 k8 d1 => ?_
    have e58 : Ex H5 H8 := fun a o ha => k8 a o (fun n => by have := n.1; rw [New, ha] at this; cases this) (e7 _ _ (e6 _ _ ha))
    have t28 : Dt H8 (New H6) v2 (toB [[Stm.either [.carry r, .set 0 r] [.carry r, .set 0 r], .again [.carry r, .set 0 r], .carry r], [Stm.either [.carry r, .set 0 r] [.carry r, .set 0 r], .again [.carry r, .set 0 r], .carry r]]) := dt_to _ _ _ _ (fun _ n => n) (fun a o n ha => k8 a o (fun z => by obtain ⟨o', h⟩ := z.2; rw [New, h] at n; cases n) ha) t2
    refine q_when (et_or (et_not (et_B (ev_same (ep_dp (ev_var rfl) (dq_dp _ _ (dt_dq _ _ _ d1))) (ep_longer rfl (dp_ex (e5.trans e58) _ _ ddu) hfB) hfL))) fun _ => et_not (et_B (ev_same (ep_dp (ev_var rfl) (dq_dp _ _ (dt_dq _ _ _ t28))) (ep_dp (ev_var rfl) (dp_ex (e5.trans e58) _ _ ddu)) hfB))) (fun h => (nomatch h)) fun _ H9 e9 => ?_
    -- the second
    refine q_spoil rfl (dt_to _ _ _ _ (fun _ n => n) (fun a o _ ha => e9 _ _ ha) t28) hfB fun H10 k10 d2 => ?_
    have e510 : Ex H5 H10 := fun a o ha => k10 a o (fun n => by rw [New, e6 _ _ ha] at n; cases n) (e9 _ _ (e58 _ _ ha))
    refine q_when (et_or (et_not (et_B (ev_same (ep_dp (ev_var rfl) (dq_dp _ _ (dt_dq _ _ _ d2))) (ep_longer rfl (dp_ex (e5.trans e510) _ _ ddu) hfB) hfL))) fun _ => et_not (et_B (ev_call (ea_cons (ev_var rfl) (ea_cons (ev_var rfl) (ea_cons (ev_var rfl) ea_nil))) fun H11 e11 Q' q' _ => ⟨X, c, vb, du, _, rfl, bko (e510.trans e11), dp_ex (e510.trans e11) _ _ hvb, dp_ex ((e5.trans e510).trans e11) _ _ ddu, hfB, q'⟩))) (fun h => (nomatch h)) fun _ H11 e11 => ?_
    have e311 : Ex H3 H11 := (e4.trans e5).trans (e510.trans e11)
    have e211 := e3.trans e311
    have e111 := e2.trans e211
    have okb2 := okb.1
    rw [okL] at okb2
    have fE : fit (toD (.either [.carry r, .set 0 r] [.carry r, .set 0 r])) 13 = true := fit_S c3 _ okb2.1 (by decide)
    have okE := okb2.1
    rw [okS] at okE
    have fB : fit (bD [.carry r, .set 0 r]) 13 = true := lv_len (by show 2 ≤ 10000; decide) (fit_L c3 _ okE.2.2.1 (by decide))
    obtain ⟨b0, bx, rfl, hb0, hbx⟩ := dp_lst dbo
    obtain ⟨ve, vr, rfl, pe, _⟩ := dpa1 hbx
    refine s_ret (ev_same (d := .list [bD [.carry r, .set 0 r], toD (.either [.carry r, .set 0 r] [.carry r, .set 0 r])]) (n := 14)
      (ep_lstD (ed_cons (ep_dp (ev_var rfl) (dp_ex e211 _ _ dbl)) (ed_cons (ep_dp (ev_op (ev_var rfl) ev_c (rv_ixL (i := ((0 : Nat) : Int)) (ex_l e311 hb0) (atI_nat rfl))) (dp_ex e311 _ _ pe)) ed_nil)) (by show 2 ≤ 100000; decide))
      (ep_lstD (ed_cons (epBlock e111 rfl) (ed_cons (ep_tupD (ed_cons (ep_dp ev_c (.str _)) (ed_cons (ep_dp (ev_var rfl) (dp_ex e211 _ _ dbl)) (ed_cons (ep_dp (ev_var rfl) (dp_ex e211 _ _ dbl)) ed_nil))) (by show 3 ≤ 100000; decide)) ed_nil)) (by show 2 ≤ 100000; decide))
      (lv_len (by show 2 ≤ 10000; decide) (by rw [fitAll, fitAll, fitAll, fB, fE]; rfl))) fun H12 e12 => q H12 (o1.trans (.of (e111.trans e12))) (x1.ex (e111.trans e12))
end
/-! ### the law of what books tell -/
abbrev slaw : Stmt := topS 52
theorem sclaw : FnScope ["script", "pool", "cells", "many", "bodies", "passed", "book", "told", "same", "left", "turned", "other", "plain"] ["script"] (defScope slaw) := ⟨rfl, rfl, rfl, by decide +kernel, rfl, by decide +kernel, by decide +kernel⟩
open C8 (Mak pe_mk)
/-! a heap without p and without N -/
open Classical in
noncomputable def Cn (p : Addr) (N : Addr → Prop) (H : Hp) : Hp := fun a => if a = p ∨ N a then none else H a
section
variable {P : Program} {w : World} {K : PySem.W.Frag} {mg : Str → Option Value} {base : Heap} {σ : L2.St} {H H' Hb : Hp} {p q0 a : Addr} {N : Addr → Prop} {te tb : TE} {E : XK}
theorem cn_p : Cn p N H p = none := by rw [Cn, if_pos (.inl rfl)]
theorem cn_N (h : N a) : Cn p N H a = none := by rw [Cn, if_pos (.inr h)]
theorem cn_o {o : HO} (h : H a = some o) (n : a ≠ p) (m : ¬ N a) : Cn p N H a = some o := by rw [Cn, if_neg (fun z => z.elim n m)]; exact h
theorem cn_ex : Ex (Cn p N H) H := fun a o h => by
  by_cases e : a = p ∨ N a
  · rw [Cn, if_pos e] at h; cases h
  · rw [Cn, if_neg e] at h; exact h
theorem ex_keep (e : Ex Hb H) (n : ∀ a, N a → Hb a = none) (k : ∀ a o, ¬ N a → H a = some o → H' a = some o) : Ex Hb H' := fun a o h => k a o (fun z => by rw [n a z] at h; cases h) (e a o h)
theorem pool_keep (x : Pool H p q0) (k : ∀ a o, ¬ N a → H a = some o → H' a = some o) (np : ¬ N p) (nq : ¬ N q0) : Pool H' p q0 := by
  obtain ⟨i, b, t, s, cs, x⟩ := x
  exact ⟨i, b, t, s, cs, k _ _ np x.hp, k _ _ nq x.hq, x.short, x.i0, x.b0⟩
theorem dpa_appI : ∀ {xs ys : List V} {ds es : List PyData}, DpAll K H xs ds → DpAll K H ys es → DpAll K H (xs ++ ys) (ds ++ es)
  | _, _, _, _, .nil, h => h
  | _, _, _, _, .cons a b, h => .cons a (dpa_appI b h)
theorem dpa_rev : ∀ {xs : List V} {ds : List PyData}, DpAll K H xs ds → DpAll K H xs.reverse ds.reverse
  | _, _, .nil => .nil
  | _, _, .cons a b => by
    rw [List.reverse_cons, List.reverse_cons]
    exact dpa_appI (dpa_rev b) (.cons a .nil)
theorem dqa_set {N : Addr → Prop} {v : V} {d : PyData} (hv : Dq N H v d) : ∀ {vs : List V} {ds : List PyData} {j : Nat}, DqAll N H vs ds → DqAll N H (vs.set j v) (ds.set j d)
  | _, _, _, .nil => .nil
  | _, _, 0, .cons a b => .cons hv b
  | _, _, j + 1, .cons a b => .cons a (dqa_set hv b)
theorem shaped_B {c m : Nat} {bs : List (List Stm)} (c3 : c ≤ 3) (hl : bs.length ≤ 10000) (h : ∀ b ∈ bs, okB c m b) : SeqAt.shaped (toB bs) = true := by
  refine shaped_of (toB_fit c3 hl h) (by decide) ?_
  rw [toB, PyData.canLay0]
  clear hl h
  induction bs with
  | nil => rw [List.map_nil, PyData.canLayAll0]
  | cons b r ih =>
    rw [List.map_cons, PyData.canLayAll0, ih, bD, PyData.canLay0, lay_L]; rfl
theorem okB_nil (c m : Nat) : okB c m [] := ⟨by rw [okL]; trivial, by show 0 ≤ 8; decide, by rw [cntL]; decide⟩
theorem okB_end (c m : Nat) : okB c m [.fin 1] := ⟨by rw [okL, okL, okS]; exact ⟨by decide, trivial⟩, by show 1 ≤ 8; decide, by simp only [cntL, cnt]; decide⟩
theorem ok_plain (c m : Nat) : ∀ b ∈ [[], [Stm.fin 1]], okB c m b := fun b hb => by
  rcases List.mem_cons.mp hb with rfl | hb
  · exact okB_nil c m
  · rw [List.mem_singleton.mp hb]; exact okB_end c m
theorem ok_plain1 (c m : Nat) : ∀ b ∈ [([] : List Stm)], okB c m b := fun b hb => by rw [List.mem_singleton.mp hb]; exact okB_nil c m
abbrev rIsB : R2 := fun x y H Q => ∃ a b, x = .bl a ∧ y = .bl b ∧ Q (.bl (decide (a = b))) H
abbrev rNotB : R2 := fun x y H Q => ∃ a b, x = .bl a ∧ y = .bl b ∧ Q (.bl (!decide (a = b))) H
theorem ev_isB {x y : Bool} (h : Ev te σ H (.bl x)) : Ev (tOp rIsB te (tC (.bl y))) σ H (.bl (decide (x = y))) := ev_op h ev_c fun H1 _ _ q => ⟨_, _, rfl, rfl, q H1 (Ex.refl H1)⟩
theorem ev_notB {x y : Bool} (h : Ev te σ H (.bl x)) : Ev (tOp rNotB te (tC (.bl y))) σ H (.bl (!decide (x = y))) := ev_op h ev_c fun H1 _ _ q => ⟨_, _, rfl, rfl, q H1 (Ex.refl H1)⟩
def spLaw (K : PySem.W.Frag) : Sp := fun vs H Q _ => ∃ (a : Addr) (ns : List Int), vs = [.ref a] ∧ SqL K H a (ns.map V.int) ∧ ∀ H', Q (.bl true) H'
theorem ok_law {C f fb fq : Addr} {fd fdb fdq : FuncData} {k : Nat} {ok : Str → Prop} (F : Fun K "law" "law" slaw f fd) (o7 : okWords ok) (hcB : Cls K C)
    (Fbds : FnOk P w K mg base CX0 16 fb fdb ["self"] (spBdsT K C 15)) (mbds : Meth K C "bodies" fb) (bbds : Binds K fdb ["self"] [])
    (Feq : FnOk P w K mg base CX0 1 fq fdq ["self", "other"] (spEqB K C)) (seq : PySem.W.findIn K (.ref C) "__eq__" = some (some (.ref fq))) (ieq : PySem.W.isFn K (.ref fq) = true) (beq : Binds K fdq ["self", "other"] [])
    (z_list : mg "list" = none) (z_reversed : mg "reversed" = none)
    (C_law_pool : Cal P w K mg base 1 "_law_pool" (spPool K) []) (C_law_draw : Cal P w K mg base 1 "_law_draw" spDraw []) (C_law_bodies : Cal P w K mg base 13 "_law_bodies" spBodies []) (C_law_copied : Cal P w K mg base 15 "_law_copied" (spCopyT K 15) [])
    (C_law_same : Cal P w K mg base 15 "_law_same" (spSame K 15) []) (CBook : Mak P w K mg base 16 "Book" C (spInit K ok C 15) []) (C_law_longer : Cal P w K mg base 15 "_law_longer" (spLong K 15) []) (C_law_spoiled : Cal P w K mg base 15 "_law_spoiled" (spSpoil 15) [])
    (C_law_turned : Cal P w K mg base 15 "_law_turned" (spTurn K 15) []) (C_law_tells : Cal P w K mg base 17 "_law_tells" (spTells K C) []) (C_law_shared_right : Cal P w K mg base 18 "_law_shared_right" spShr []) (hk : 18 ≤ k) :
    FnOk P w K mg base CX0 (k + 1) f fd ["script"] (spLaw K) := by
  have sc := sclaw
  refine F.ok sc (fun vs H Q E h => ?_) (fun cdv A outer s H vs Q E hr h => ?_)
  · obtain ⟨a, ns, rfl, _⟩ := h
    rfl
  · obtain ⟨a, ns, rfl, hS, q⟩ := h
    refine ⟨_, (pss_cons (ps_set (i := 1) sc.nd rfl (by first | exact Or.inl rfl | exact Or.inr rfl) (pe_c C_law_pool hr (by omega) (by rfl) (pa_cons (pv 0) pa_nil)))
      (pss_cons (ps_set (i := 2) sc.nd rfl (by first | exact Or.inl rfl | exact Or.inr rfl) (pe_op op_add pe_int (pe_c C_law_draw hr (by omega) (by rfl) (pa_cons (pv 1) (pa_cons pe_int pa_nil)))))
      (pss_cons (ps_set (i := 3) sc.nd rfl (by first | exact Or.inl rfl | exact Or.inr rfl) (pe_op op_add pe_int (pe_c C_law_draw hr (by omega) (by rfl) (pa_cons (pv 1) (pa_cons pe_int pa_nil)))))
      (pss_cons (ps_set (i := 4) sc.nd rfl (by first | exact Or.inl rfl | exact Or.inr rfl) (pe_c C_law_bodies hr (by omega) (by rfl) (pa_cons (pv 1) (pa_cons (pv 2) (pa_cons (pv 3) (pa_cons pe_int pa_nil))))))
      (Evl.pss_cut (ps_if (pt_cmpR op_eq (pe_c C_law_draw hr (by omega) (by rfl) (pa_cons (pv 1) (pa_cons pe_int pa_nil))) pe_int (nomark _))
      (pss_one (ps_asg (pe_lst pa_nil) (pg_sub (pv 4) (pe_c C_law_draw hr (by omega) (by rfl) (pa_cons (pv 1) (pa_cons (pv 3) pa_nil))) set_list)))
      pss_nil)
      (pss_cons (ps_set (i := 5) sc.nd rfl (by first | exact Or.inl rfl | exact Or.inr rfl) (pe_c C_law_copied hr (by omega) (by rfl) (pa_cons (pv 4) pa_nil)))
      (pss_cons (ps_set (i := 6) sc.nd rfl (by first | exact Or.inl rfl | exact Or.inr rfl) (pe_mk CBook hr (by omega) (by rfl) (pa_cons (pv 2) (pa_cons (pv 5) pa_nil))))
      (pss_cons (ps_if (PW.pt (pw_or (pt_not (pt_val (pe_c C_law_tells hr (by omega) (by rfl) (pa_cons (pv 6) (pa_cons (pv 2) (pa_cons (pv 4) pa_nil)))))) (pw_or1 (pt_not (pt_val (pe_c C_law_same hr (by omega) (by rfl) (pa_cons (pv 5) (pa_cons (pv 4) pa_nil))))))))
      (pss_one (ps_ret pe_bl))
      pss_nil)
      (pss_cons (ps_expr (pe_c C_law_spoiled hr (by omega) (by rfl) (pa_cons (pv 5) pa_nil)))
      (pss_cons (ps_if (pt_not (pt_val (pe_c C_law_tells hr (by omega) (by rfl) (pa_cons (pv 6) (pa_cons (pv 2) (pa_cons (pv 4) pa_nil))))))
      (pss_one (ps_ret pe_bl))
      pss_nil)
      (pss_cons (ps_set (i := 7) sc.nd rfl (by first | exact Or.inl rfl | exact Or.inr rfl) (pe_meth0 (pv 6) hcB mbds Fbds (hr.mono (by omega)) bbds .nil pass0))
      (pss_cons (ps_expr (pe_c C_law_spoiled hr (by omega) (by rfl) (pa_cons (pv 7) pa_nil)))
      (pss_cons (ps_if (pt_not (pt_val (pe_c C_law_same hr (by omega) (by rfl) (pa_cons (pv 7) (pa_cons (pe_c C_law_longer hr (by omega) (by rfl) (pa_cons (pv 4) pa_nil)) pa_nil)))))
      (pss_one (ps_ret pe_bl))
      pss_nil)
      (pss_cons (ps_if (pt_not (pt_val (pe_c C_law_tells hr (by omega) (by rfl) (pa_cons (pv 6) (pa_cons (pv 2) (pa_cons (pv 4) pa_nil))))))
      (pss_one (ps_ret pe_bl))
      pss_nil)
      (pss_cons (ps_if (pt_not (pt_val (pe_c C_law_shared_right hr (by omega) (by rfl) (pa_cons (pv 1) (pa_cons (pv 2) pa_nil)))))
      (pss_one (ps_ret pe_bl))
      pss_nil)
      (pss_cons (ps_set (i := 8) sc.nd rfl (by first | exact Or.inl rfl | exact Or.inr rfl) (pe_mk CBook hr (by omega) (by rfl) (pa_cons (pv 2) (pa_cons (pe_c C_law_copied hr (by omega) (by rfl) (pa_cons (pv 4) pa_nil)) pa_nil))))
      (pss_cons (ps_if (PW.pt (pw_or (pt_cmpR op_isnot_bl (pe_cmpR (op_eqOwn Feq seq ieq beq (hr.mono (by omega)) pass0) (pv 6) (pv 8) (nomark _)) pe_bl (nomark _)) (pw_or1 (pt_cmpR op_isnot_bl (pe_cmpR (op_eqOwn Feq seq ieq beq (hr.mono (by omega)) pass0) (pv 8) (pv 6) (nomark _)) pe_bl (nomark _)))))
      (pss_one (ps_ret pe_bl))
      pss_nil)
      (pss_cons (ps_set (i := 9) sc.nd rfl (by first | exact Or.inl rfl | exact Or.inr rfl) (pe_lst (pa_cons pe_int pa_nil)))
      (pss_cons (ps_set (i := 10) sc.nd rfl (by first | exact Or.inl rfl | exact Or.inr rfl) (pe_c C_law_turned hr (by omega) (by rfl) (pa_cons (pv 4) (pa_cons (pv 9) pa_nil))))
      (pss_cons (ps_if (PW.pt (pw_and (pt_cmpR op_eq (pe_ix ix_list (pv 9) pe_int (fun _ _ => rfl)) pe_int (nomark _)) (pw_and1 (pt_cmpR op_isnot_bl (pe_cmpR (op_eqOwn Feq seq ieq beq (hr.mono (by omega)) pass0) (pv 6) (pe_mk CBook hr (by omega) (by rfl) (pa_cons (pv 2) (pa_cons (pv 10) pa_nil))) (nomark _)) pe_bl (nomark _)))))
      (pss_one (ps_ret pe_bl))
      pss_nil)
      (pss_cons (ps_set (i := 11) sc.nd rfl (by first | exact Or.inl rfl | exact Or.inr rfl) (pe_listRev rfl (by rfl) z_list (by rfl) z_reversed (pe_callTy call_list_of (by rfl) z_list (by decide +kernel) (pa_cons (pv 4) pa_nil))))
      (pss_cons (ps_if (pt_cmpR op_ne (pe_cmpR op_is_bl (pe_cmpR (op_eqOwn Feq seq ieq beq (hr.mono (by omega)) pass0) (pv 6) (pe_mk CBook hr (by omega) (by rfl) (pa_cons (pv 2) (pa_cons (pe_c C_law_copied hr (by omega) (by rfl) (pa_cons (pv 11) pa_nil)) pa_nil))) (nomark _)) pe_bl (nomark _)) (pe_cmpR (op_eqD hr.units) (pv 11) (pv 4) (nomark _)) (nomark _))
      (pss_one (ps_ret pe_bl))
      pss_nil)
      (pss_cons (ps_set (i := 12) sc.nd rfl (by first | exact Or.inl rfl | exact Or.inr rfl) (pe_lst (pa_cons (pe_lst pa_nil) (pa_cons (pe_lst (pa_cons (pe_tup (pa_cons pe_str (pa_cons pe_int pa_nil))) pa_nil)) pa_nil))))
      (pss_one (ps_ret (pe_and (pe_cmpR op_is_bl (pe_cmpR (op_eqOwn Feq seq ieq beq (hr.mono (by omega)) pass0) (pe_mk CBook hr (by omega) (by rfl) (pa_cons (pv 2) (pa_cons (pv 12) pa_nil))) (pe_mk CBook hr (by omega) (by rfl) (pa_cons (pv 2) (pa_cons (pe_slice sl_list (pv 12) po_none (po_some pe_int)) pa_nil))) (nomark _)) pe_bl (nomark _)) (pe_one (pe_cmpR op_is_bl (pe_cmpR (op_eqOwn Feq seq ieq beq (hr.mono (by omega)) pass0) (pe_mk CBook hr (by omega) (by rfl) (pa_cons pe_int (pa_cons (pv 12) pa_nil))) (pe_mk CBook hr (by omega) (by rfl) (pa_cons pe_int (pa_cons (pv 12) pa_nil))) (nomark _)) pe_bl (nomark _))))))))))))))))))))))))))))), ?_⟩
    -- the draws
    refine q_run ?_
    refine ⟨.ref a, rfl, a, ns, rfl, hS, fun p q0 H1 np nq e1 x1 => ?_⟩
    refine q_run ?_
    refine ⟨.ref p, rfl, p, q0, 3, rfl, by decide, by decide, x1, fun r H2 r0 r3 o2 x2 => ?_⟩
    obtain ⟨c, hc⟩ : ∃ n : Nat, 1 + r = (n : Int) := ⟨(1 + r).toNat, by omega⟩
    refine ⟨1, r, rfl, rfl, ?_⟩
    show tSeq _ _ _ (List.set _ 2 (some (V.int (1 + r)))) _
    rw [hc]
    refine q_run ?_
    refine ⟨.ref p, rfl, p, q0, 3, rfl, by decide, by decide, x2, fun r' H3 r0' r3' o3 x3 => ?_⟩
    obtain ⟨m, hm⟩ : ∃ n : Nat, 1 + r' = (n : Int) := ⟨(1 + r').toNat, by omega⟩
    refine ⟨1, r', rfl, rfl, ?_⟩
    show tSeq _ _ _ (List.set _ 3 (some (V.int (1 + r')))) _
    rw [hm]
    have c1 : 1 ≤ c := by omega
    have c3 : c ≤ 3 := by omega
    have m1 : 1 ≤ m := by omega
    have m3 : m ≤ 3 := by omega
    refine q_run ?_
    refine ⟨.ref p, rfl, .int (c : Int), rfl, .int (m : Int), rfl, p, q0, c, m, rfl, c1, c3, m1, m3, x3, fun bs0 B xs0 H4 hl0 hok0 o4 x4 nB hB0 dq0 => ?_⟩
    have nBp : B ≠ p := new_ne nB x3.isP
    have nBq : B ≠ q0 := new_ne nB x3.isQ
    -- perhaps one is without statements
    refine ⟨fun σ' H' => ∃ (bs : List (List Stm)) (xs : List V), σ' = [some (.ref a), some (.ref p), some (.int (c : Int)), some (.int (m : Int)), some (.ref B), none, none, none, none, none, none, none, none] ∧ bs.length = m ∧ (∀ b ∈ bs, okB c m b) ∧ Pool H' p q0 ∧ H' B = some (.lst xs) ∧ DqAll (fun a => a ≠ p ∧ a ≠ B) H' xs (bs.map bD), ?_, ?_⟩
    · refine ⟨.ref p, rfl, p, q0, 5, rfl, by decide, by decide, x4, fun r5 H5 _ _ o5 x5 => ?_⟩
      have hB5 := o5 _ _ nBp hB0
      have dq5 : DqAll (fun a => a ≠ p ∧ a ≠ B) H5 xs0 (bs0.map bD) := dqa_to (fun a n => ⟨new_ne n.1 x3.isP, n.2⟩) (fun a o n ha => o5 _ _ (new_ne n.1 x3.isP) ha) _ _ dq0
      refine ⟨rfl, _, rfl, ite2 (fun _ => ?_) (fun _ => ?_)⟩
      · refine ⟨by decide, fun L nL => ?_⟩
        have eL := Ex.new (o := .lst []) nL
        refine ⟨.ref B, rfl, .ref p, rfl, .int (m : Int), rfl, p, q0, (m : Int), rfl, by omega, by rw [Int.natAbs_natCast]; exact Nat.lt_of_le_of_lt m3 (by decide), x5.ex eL, fun r6 H6 r60 r6m o6 x6 => ?_⟩
        have hl6 : xs0.length = m := by rw [dqa_len dq5, List.length_map, hl0]
        have LB : L ≠ B := new_ne nL ⟨_, hB5⟩
        have Lp : L ≠ p := new_ne nL x5.isP
        have hB6 := o6 _ _ nBp (eL _ _ hB5)
        have hr6 : r6.toNat < xs0.length := by omega
        refine ⟨B, xs0, r6, r6.toNat, rfl, rfl, hB6, ?_, ?_⟩
        · unfold ixN
          rw [if_pos r60, if_pos (by omega)]
        · refine ⟨bs0.set r6.toNat [], xs0.set r6.toNat (.ref L), rfl, by rw [List.length_set]; exact hl0, fun b hb => ?_, x6.upd nBp nBq, upd_same, ?_⟩
          · rcases List.mem_or_eq_of_mem_set hb with hb | rfl
            · exact hok0 b hb
            · exact okB_nil c m
          · rw [List.map_set]
            refine dqa_set ?_ (dqa_to (fun _ h => h) (fun a o n ha => by rw [upd_ne n.2]; exact o6 _ _ n.1 (eL _ _ ha)) _ _ dq5)
            rw [bD, toDs]
            refine .lst ⟨Lp, LB⟩ ?_ .nil
            rw [upd_ne LB]
            exact o6 _ _ Lp upd_same
      · exact ⟨bs0, xs0, rfl, hl0, hok0, x5, hB5, dq5⟩
    · rintro σ' H5 ⟨bs, xs, rfl, hl, hok, x5, hB5, dq5⟩
      have hfB : fit (toB bs) 14 = true := toB_fit c3 (by omega) hok
      have hfL : fit (lgr (toB bs)) 14 = true := fit_lgr _ _ hfB (by
        rw [toB, wid]
        have := wid_B c3 _ hok
        rw [List.length_map]
        omega)
      have dB5 : Dp K H5 (.ref B) (toB bs) := .lst (sq_of hB5) (dqa_dpa _ _ dq5)
      -- passed
      refine q_run (cpT_call rfl (ev_var rfl) dB5 hfB H5 (Ex.refl _) _ fun pv H6 e6 t1 => ?_)
      -- the book
      refine q_run ?_
      refine ⟨.int (c : Int), rfl, pv, rfl, ?_⟩
      intro X dx hX hdx ne
      have hX1 : (upd H6 dx (.own X)) X = none := by rw [upd_ne ne.symm]; exact hX
      refine ⟨X, dx, pv, bs.map bD, c, 14, H6, rfl, upd_same, hX, (Ex.new hdx).trans (Ex.new hX1), dq_dp _ _ (dt_dq _ _ _ t1), hfB, rfl, c1, c3, toB_ok o7 hl m1 m3 hok, fun H7 e7 isb => ⟨rfl, ?_⟩⟩
      obtain ⟨dxx, vb, hX7, dqb⟩ := isb
      have e57 := e6.trans e7
      have x7 := x5.ex e57
      have t17 := dt_to _ _ _ _ (fun _ n => n) (fun a o _ ha => e7 _ _ ha) (dt_dom _ _ _ t1)
      have np : ¬ (New H5 p ∧ ∃ o, H6 p = some o) := fun z => by
        obtain ⟨i, b, t, s, cs, x⟩ := x5
        have := z.1; rw [New, x.hp] at this; cases this
      have nq : ¬ (New H5 q0 ∧ ∃ o, H6 q0 = some o) := fun z => by
        obtain ⟨i, b, t, s, cs, x⟩ := x5
        have := z.1; rw [New, x.hq] at this; cases this
      have hXp : X ≠ p := new_ne hX (x5.ex e6).isP
      obtain ⟨Hb, hbp, hbN, eb7, dBb, bko, dvb⟩ : ∃ Hb : Hp, Hb p = none ∧ (∀ a, (New H5 a ∧ ∃ o, H6 a = some o) → Hb a = none) ∧ Ex Hb H7 ∧ Dp K Hb (.ref B) (toB bs) ∧ (∀ H', Ex Hb H' → BkO C H' X c vb) ∧ Dp K Hb vb (toB bs) := by
        refine ⟨Cn p (fun a => New H5 a ∧ ∃ o, H6 a = some o) H7, cn_p, fun a h => cn_N h, cn_ex, ?_, fun H' e => ⟨dxx, e _ _ (cn_o hX7 hXp fun z => ?_)⟩, ?_⟩
        · exact .lst (sq_of (cn_o (e57 _ _ hB5) nBp fun z => by have := z.1; rw [New, hB5] at this; cases this)) (dqa_dpa (N := fun _ => True) _ _ (dqa_to (fun _ _ => trivial) (fun a o n ha => cn_o (e57 _ _ ha) n.1 fun z => by have := z.1; rw [New, ha] at this; cases this) _ _ dq5))
        · obtain ⟨o, ho⟩ := z.2; rw [hX] at ho; cases ho
        · exact dq_dp (N := fun _ => True) _ _ (dq_to (fun _ _ => trivial) (fun a o n ha => cn_o ha (new_ne n (x5.ex e6).isP) fun z => by obtain ⟨o, ho⟩ := z.2; rw [New, ho] at n; cases n) _ _ dqb)
      have evT : ∀ {E : XK} {σ : L2.St} {H : Hp}, Ex Hb H → σ[6]? = some (some (.ref X)) → σ[2]? = some (some (.int (c : Int))) → σ[4]? = some (some (.ref B)) → Ev (tCall (spTells K C) [] E (tCons (tVar 6) (tCons (tVar 2) (tCons (tVar 4) tNil)))) σ H (.bl true) := fun e h1 h2 h3 =>
        ev_call (ea_cons (ev_var h1) (ea_cons (ev_var h2) (ea_cons (ev_var h3) ea_nil))) fun H1 e1 Q' q' _ => ⟨X, c, vb, .ref B, _, rfl, bko _ (e.trans e1), dp_ex (e.trans e1) _ _ dvb, dp_ex (e.trans e1) _ _ dBb, hfB, q'⟩
      refine q_when (et_or (et_not (et_B (evT eb7 rfl rfl rfl))) fun _ => et_not (et_B (ev_same (ep_dp (ev_var rfl) (dq_dp _ _ (dt_dq _ _ _ t17))) (ep_dp (ev_var rfl) (dp_ex eb7 _ _ dBb)) hfB))) (fun h => (nomatch h)) fun _ H8 e8 => ?_
      -- spoiled
      refine q_spoil rfl (dt_to _ _ _ _ (fun _ n => n) (fun a o _ ha => e8 _ _ ha) t17) hfB fun H9 k9 d9 => ?_
      have eb9 := ex_keep (eb7.trans e8) hbN k9
      have x9 := pool_keep (x7.ex e8) k9 np nq
      refine q_when (et_not (et_B (evT eb9 rfl rfl rfl))) (fun h => (nomatch h)) fun _ H10 e10 => ?_
      have eb10 := eb9.trans e10
      have x10 := x9.ex e10
      -- told
      refine q_run (cpT_bds rfl (bko _ eb10) (dp_ex eb10 _ _ dvb) hfB H10 (Ex.refl _) _ fun tv H11 e11 t3 => ?_)
      refine q_spoil rfl t3 hfB fun H12 k12 d12 => ?_
      have eb12 := ex_keep (eb10.trans e11) (fun a n => by
        cases h : Hb a with
        | none => rfl
        | some o => rw [New, eb10 _ _ h] at n; cases n) k12
      have x12 := pool_keep (x10.ex e11) k12 (fun n => new_ne n x10.isP rfl) (fun n => new_ne n x10.isQ rfl)
      refine q_same (d := lgr (toB bs)) (n := 14) (ep_dp (ev_var rfl) (dq_dp _ _ (dt_dq _ _ _ d12))) (ep_longer rfl (dp_ex eb12 _ _ dBb) hfB) hfL fun H13 e13 => ?_
      have eb13 := eb12.trans e13
      refine q_when (et_not (et_B (evT eb13 rfl rfl rfl))) (fun h => (nomatch h)) fun _ H14 e14 => ?_
      have eb14 := eb13.trans e14
      -- shared
      refine ⟨.ref p, rfl, .int (c : Int), rfl, p, q0, c, rfl, c1, c3, (x12.ex e13).ex e14, fun H15 o15 x15 => ?_⟩
      have eb15 := ex_oth eb14 hbp o15
      refine ⟨true, rfl, ?_⟩
      dsimp only [Bool.not_true]
      refine (if_neg (by decide)).mpr ?_
      -- same
      refine q_run (ep_book (m := m) o7 (ev_var rfl) (ep_lcopied rfl (dp_ex eb15 _ _ dBb) hfB) c1 c3 hl m1 m3 hok H15 (Ex.refl _) _ fun sv H16 e16 isS => ?_)
      have eb16 := eb15.trans e16
      have shB := shaped_B c3 (by omega) hok
      have epB : ∀ {σ : L2.St} {H : Hp}, Ex Hb H → σ[6]? = some (some (.ref X)) → EvP (tVar 6) σ H (IsBk K C c (toB bs)) := fun e h => ep_ev (ev_var h) fun H2 e2 => ⟨X, vb, rfl, bko _ (e.trans e2), dp_ex (e.trans e2) _ _ dvb⟩
      have tt : (decide (c = c) && PyData.eqv (toB bs) (toB bs)) = true := by rw [eqv_toB_self, decide_eq_true rfl]; rfl
      refine q_when (b := false) (et_is (et_or (et_test (ev_notB (ev_eqB (epB eb16 rfl) (ep_ev (ev_var rfl) fun _ e => isBk_ex e isS) shB shB))) fun _ => et_test (ev_notB (ev_eqB (ep_ev (ev_var rfl) fun _ e => isBk_ex e isS) (epB eb16 rfl) shB shB))) (by rw [tt]; rfl)) (fun h => (nomatch h)) fun _ H17 e17 => ?_
      have eb17 := eb16.trans e17
      -- turned
      refine q_asgL (el_lst (ea_cons ev_c ea_nil) (by show 1 ≤ 100000; decide)) fun lf H18 nlf e18 hlf => ?_
      have eb18 := eb17.trans e18
      have hlb : Hb lf = none := fresh_back eb17 nlf
      refine q_run ?_
      refine ⟨.ref B, rfl, .ref lf, rfl, lf, .ref B, toB bs, 14, false, rfl, rfl, hlf, dp_ex (ct_base eb18 hlb) _ _ dBb, hfB, tk_B hok, fun tv H19 o19 h19 dq19 => ?_⟩
      rw [turn_B] at h19 dq19
      have eb19 := ex_oth eb18 hlb o19
      have dT := dq_dp (K := K) _ _ dq19
      have okT := turnB_ok bs false hok
      have lT : (turnB bs false).1.length = m := by rw [turnB_len]; exact hl
      refine q_when (b := false) (et_is (et_and (b := false) (et_test (ev_op (ev_op (ev_var rfl) ev_c (rv_ixL (i := ((0 : Nat) : Int)) (sq_of h19) (atI_nat rfl))) ev_c (rv_eq (by unfold bitV; rfl)))) fun ht => et_is (et_test (ev_notB (ev_eqB (epB eb19 rfl) (ep_book (m := m) o7 (ev_var rfl) (ep_dp (ev_var rfl) dT) c1 c3 lT m1 m3 okT) shB (shaped_B c3 (by omega) okT)))) ?_) (Bool.and_false _)) (fun h => (nomatch h)) fun _ H20 e20 => ?_
      · have hz : (turnB bs false).2 = true := by
          cases e : (turnB bs false).2 with
          | true => rfl
          | false => rw [e] at ht; cases ht
        rw [eqv_toB_ne (turnB_ne bs hok hz).symm, Bool.and_false]; rfl
      have eb20 := eb19.trans e20
      -- other
      obtain ⟨B1, ys, hB1, sB, dB⟩ := dp_lst dBb
      cases hB1
      refine q_run ?_
      refine ⟨.ref B, rfl, B, ys, rfl, .inl (ex_l eb20 sB), fun l nl => ⟨l, ys, rfl, sq_of upd_same, fun O nO => ?_⟩⟩
      have eO := (Ex.new (o := .lst ys) nl).trans (Ex.new (o := .lst ys.reverse) nO)
      have hO : (upd (upd H20 l (.lst ys)) O (.lst ys.reverse)) O = some (.lst ys.reverse) := upd_same
      generalize upd (upd H20 l (.lst ys)) O (.lst ys.reverse) = H21 at eO hO ⊢
      have eb21 := eb20.trans eO
      have dO : Dp K H21 (.ref O) (toB bs.reverse) := .lst (sq_of hO) (by rw [List.map_reverse]; exact dpa_rev (dpa_ex eb21 _ _ dB))
      have okR : ∀ b ∈ bs.reverse, okB c m b := fun b hb => hok b (List.mem_reverse.mp hb)
      have lR : bs.reverse.length = m := by rw [List.length_reverse]; exact hl
      have shR := shaped_B c3 (by omega) okR
      have symm : PyData.eqv (toB bs) (toB bs.reverse) = PyData.eqv (toB bs.reverse) (toB bs) := by
        by_cases z : bs = bs.reverse
        · rw [← z]
        · rw [eqv_toB_ne z, eqv_toB_ne fun y => z y.symm]
      have dBb' := dp_ex eb21 _ _ dBb
      refine q_when (b := false) (et_is (et_test (ev_op (ev_isB (ev_eqB (epB eb21 rfl) (ep_book (m := m) o7 (ev_var rfl) (ep_lcopied rfl dO (toB_fit c3 (by omega) okR)) c1 c3 lR m1 m3 okR) shB shR)) (ev_op (ev_var rfl) (ev_var rfl) (rv_val fun H' e' Q' q' => ⟨toB bs.reverse, toB bs, dp_ex e' _ _ dO, dp_ex e' _ _ dBb', shR, shB, q'⟩)) (rv_ne rfl))) ?_) (fun h => (nomatch h)) fun _ H22 e22 => ?_
      · rw [decide_eq_true (rfl : c = c), Bool.true_and, symm]
        cases PyData.eqv (toB bs.reverse) (toB bs) <;> rfl
      have eb22 := eb21.trans e22
      -- plain
      refine q_run (ep_lstD (K := K) (ds := [[], [Stm.fin 1]].map bD) (ed_cons (ep_lstD ed_nil (by decide)) (ed_cons (ep_lstD (ed_cons (ep_tupD (ed_cons (ep_dp ev_c (.str _)) (ed_cons (ep_dp ev_c (.int 1)) ed_nil)) (by show 2 ≤ 100000; decide)) ed_nil) (by show 1 ≤ 100000; decide)) ed_nil)) (by show 2 ≤ 100000; decide) H22 (Ex.refl _) _ fun plv H23 e23 dP => ?_)
      obtain ⟨pa, px, rfl, sP, xP⟩ := dp_lst dP
      obtain ⟨pv0, pr, rfl, p0, xP1⟩ := dpa1 xP
      obtain ⟨pv1, pr, rfl, p1, xP2⟩ := dpa1 xP1
      obtain rfl := dpa0 xP2
      have sh2 : ∀ c, c ≤ 3 → SeqAt.shaped (toB [[], [Stm.fin 1]]) = true := fun c h => shaped_B (m := 2) h (by show 2 ≤ 10000; decide) (ok_plain c 2)
      have epP : ∀ {H : Hp} {σ : L2.St}, Ex H23 H → σ[12]? = some (some (.ref pa)) → EvP (tVar 12) σ H (DP K (toB [[], [Stm.fin 1]])) := fun e h => ep_dp (ev_var h) (dp_ex e _ _ dP)
      have ep1 : ∀ {σ : L2.St}, σ[12]? = some (some (.ref pa)) → EvP (tSl (rSlL K) (tVar 12) tNoPart (tPart (tC (.int 1)))) σ H23 (DP K (toB [[]])) := fun h =>
        ep_el (el_sl (xs := [pv0, pv1]) (ev_var h) eo_none (eo_some ev_c) sP) fun p H2 e hp => .lst (sq_of hp) (.cons (dp_ex e _ _ p0) .nil)
      refine s_ret (ev_andV (a := true) (b := true) (ev_is (ev_isB (ev_eqB (ep_book (m := 2) o7 (ev_var rfl) (epP (Ex.refl _) rfl) c1 c3 rfl (by decide) (by decide) (ok_plain c 2)) (ep_book (m := 1) o7 (ev_var rfl) (ep1 rfl) c1 c3 rfl (by decide) (by decide) (ok_plain1 c 1)) (sh2 c c3) (shaped_B (m := 1) c3 (by show 1 ≤ 10000; decide) (ok_plain1 c 1)))) (by rw [eqv_toB_ne (by simp), Bool.and_false, decide_eq_true rfl]))
        fun _ => ev_is (ev_isB (ev_eqB (ep_book (c := 1) (m := 2) o7 ev_c (epP (Ex.refl _) rfl) (by decide) (by decide) rfl (by decide) (by decide) (ok_plain 1 2)) (ep_book (c := 2) (m := 2) o7 ev_c (epP (Ex.refl _) rfl) (by decide) (by decide) rfl (by decide) (by decide) (ok_plain 2 2)) (sh2 1 (by decide)) (sh2 2 (by decide)))) (by rfl)) fun H24 _ => q H24
end
/-! ### what the top has written; the end -/
theorem all_mk {l : PySem.W.OpenLaw} {w : World} {K : PySem.W.Frag} {h : Heap} {mg : Str → Option Value} {fa : Addr} (X : K.In h) (G : h.Ns mainGlobals mg) (hfa : mg "law" = some (.ref fa))
    {odis_integer anis_integer : Option Addr} {slis_integer : Array (Option Value)} {ocis_integer kVis_integer dcis_integer pmis_integer cdis_integer ctis_integer : Value} {fis_integer : Addr} {odis_between anis_between : Option Addr} {slis_between : Array (Option Value)} {ocis_between kVis_between dcis_between pmis_between cdis_between ctis_between : Value} {fis_between : Addr} {odis_bit anis_bit : Option Addr} {slis_bit : Array (Option Value)} {ocis_bit kVis_bit dcis_bit pmis_bit cdis_bit ctis_bit : Value} {fis_bit : Addr} {odis_index anis_index : Option Addr} {slis_index : Array (Option Value)} {ocis_index kVis_index dcis_index pmis_index cdis_index ctis_index : Value} {fis_index : Addr} {odis_cell_list anis_cell_list : Option Addr} {slis_cell_list : Array (Option Value)} {ocis_cell_list kVis_cell_list dcis_cell_list pmis_cell_list cdis_cell_list ctis_cell_list : Value} {fis_cell_list : Addr} {odcopied ancopied : Option Addr} {slcopied : Array (Option Value)} {occopied kVcopied dccopied pmcopied cdcopied ctcopied : Value} {fcopied : Addr} {odis_row anis_row : Option Addr} {slis_row : Array (Option Value)} {ocis_row kVis_row dcis_row pmis_row cdis_row ctis_row : Value} {fis_row : Addr} {odis_block_pair anis_block_pair : Option Addr} {slis_block_pair : Array (Option Value)} {ocis_block_pair kVis_block_pair dcis_block_pair pmis_block_pair cdis_block_pair ctis_block_pair : Value} {fis_block_pair : Addr} {odis_sized anis_sized : Option Addr} {slis_sized : Array (Option Value)} {ocis_sized kVis_sized dcis_sized pmis_sized cdis_sized ctis_sized : Value} {fis_sized : Addr} {odis_statement anis_statement : Option Addr} {slis_statement : Array (Option Value)} {ocis_statement kVis_statement dcis_statement pmis_statement cdis_statement ctis_statement : Value} {fis_statement : Addr} {odblocks_of anblocks_of : Option Addr} {slblocks_of : Array (Option Value)} {ocblocks_of kVblocks_of dcblocks_of pmblocks_of cdblocks_of ctblocks_of : Value} {fblocks_of : Addr} {odplaces anplaces : Option Addr} {slplaces : Array (Option Value)} {ocplaces kVplaces dcplaces pmplaces cdplaces ctplaces : Value} {fplaces : Addr} {odentries anentries : Option Addr} {slentries : Array (Option Value)} {ocentries kVentries dcentries pmentries cdentries ctentries : Value} {fentries : Addr} {odfits anfits : Option Addr} {slfits : Array (Option Value)} {ocfits kVfits dcfits pmfits cdfits ctfits : Value} {ffits : Addr} {odfirst_fault anfirst_fault : Option Addr} {slfirst_fault : Array (Option Value)} {ocfirst_fault kVfirst_fault dcfirst_fault pmfirst_fault cdfirst_fault ctfirst_fault : Value} {ffirst_fault : Addr} {odcheck_bodies ancheck_bodies : Option Addr} {slcheck_bodies : Array (Option Value)} {occheck_bodies kVcheck_bodies dccheck_bodies pmcheck_bodies cdcheck_bodies ctcheck_bodies : Value} {fcheck_bodies : Addr} {odstatement_at anstatement_at : Option Addr} {slstatement_at : Array (Option Value)} {ocstatement_at kVstatement_at dcstatement_at pmstatement_at cdstatement_at ctstatement_at : Value} {fstatement_at : Addr} {CBook : Addr} {tLIST_LIMIT : Tok} {tPROCEDURE_LIMIT : Tok} {tLAST_LEVEL : Tok} {tROW_LIMIT : Tok} {tMOST_CELLS : Tok} {tMOST_PROCEDURES : Tok} {a_SIZES : Addr} {esSIZES : Array DictEntry} {nSIZES : Nat} {tSIZES0 tSIZES1 tSIZES2 tSIZES3 tSIZES4 tSIZES5 tSIZES6 : Tok} {odBook___init__ anBook___init__ : Option Addr} {slBook___init__ : Array (Option Value)} {ocBook___init__ kVBook___init__ dcBook___init__ pmBook___init__ cdBook___init__ ctBook___init__ : Value} {fBook___init__ : Addr} {odBook_cells anBook_cells : Option Addr} {slBook_cells : Array (Option Value)} {ocBook_cells kVBook_cells dcBook_cells pmBook_cells cdBook_cells ctBook_cells : Value} {fBook_cells : Addr} {odBook_bodies anBook_bodies : Option Addr} {slBook_bodies : Array (Option Value)} {ocBook_bodies kVBook_bodies dcBook_bodies pmBook_bodies cdBook_bodies ctBook_bodies : Value} {fBook_bodies : Addr} {odBook___len__ anBook___len__ : Option Addr} {slBook___len__ : Array (Option Value)} {ocBook___len__ kVBook___len__ dcBook___len__ pmBook___len__ cdBook___len__ ctBook___len__ : Value} {fBook___len__ : Addr} {odBook___eq__ anBook___eq__ : Option Addr} {slBook___eq__ : Array (Option Value)} {ocBook___eq__ kVBook___eq__ dcBook___eq__ pmBook___eq__ cdBook___eq__ ctBook___eq__ : Value} {fBook___eq__ : Addr} {od_law_pool an_law_pool : Option Addr} {sl_law_pool : Array (Option Value)} {oc_law_pool kV_law_pool dc_law_pool pm_law_pool cd_law_pool ct_law_pool : Value} {f_law_pool : Addr} {od_law_draw an_law_draw : Option Addr} {sl_law_draw : Array (Option Value)} {oc_law_draw kV_law_draw dc_law_draw pm_law_draw cd_law_draw ct_law_draw : Value} {f_law_draw : Addr} {od_law_row an_law_row : Option Addr} {sl_law_row : Array (Option Value)} {oc_law_row kV_law_row dc_law_row pm_law_row cd_law_row ct_law_row : Value} {f_law_row : Addr} {od_law_command an_law_command : Option Addr} {sl_law_command : Array (Option Value)} {oc_law_command kV_law_command dc_law_command pm_law_command cd_law_command ct_law_command : Value} {f_law_command : Addr} {od_law_some_cells an_law_some_cells : Option Addr} {sl_law_some_cells : Array (Option Value)} {oc_law_some_cells kV_law_some_cells dc_law_some_cells pm_law_some_cells cd_law_some_cells ct_law_some_cells : Value} {f_law_some_cells : Addr} {od_law_block an_law_block : Option Addr} {sl_law_block : Array (Option Value)} {oc_law_block kV_law_block dc_law_block pm_law_block cd_law_block ct_law_block : Value} {f_law_block : Addr} {od_law_statement an_law_statement : Option Addr} {sl_law_statement : Array (Option Value)} {oc_law_statement kV_law_statement dc_law_statement pm_law_statement cd_law_statement ct_law_statement : Value} {f_law_statement : Addr} {od_law_body an_law_body : Option Addr} {sl_law_body : Array (Option Value)} {oc_law_body kV_law_body dc_law_body pm_law_body cd_law_body ct_law_body : Value} {f_law_body : Addr} {od_law_bodies an_law_bodies : Option Addr} {sl_law_bodies : Array (Option Value)} {oc_law_bodies kV_law_bodies dc_law_bodies pm_law_bodies cd_law_bodies ct_law_bodies : Value} {f_law_bodies : Addr} {od_law_copied an_law_copied : Option Addr} {sl_law_copied : Array (Option Value)} {oc_law_copied kV_law_copied dc_law_copied pm_law_copied cd_law_copied ct_law_copied : Value} {f_law_copied : Addr} {od_law_same an_law_same : Option Addr} {sl_law_same : Array (Option Value)} {oc_law_same kV_law_same dc_law_same pm_law_same cd_law_same ct_law_same : Value} {f_law_same : Addr} {od_law_longer an_law_longer : Option Addr} {sl_law_longer : Array (Option Value)} {oc_law_longer kV_law_longer dc_law_longer pm_law_longer cd_law_longer ct_law_longer : Value} {f_law_longer : Addr} {od_law_spoiled an_law_spoiled : Option Addr} {sl_law_spoiled : Array (Option Value)} {oc_law_spoiled kV_law_spoiled dc_law_spoiled pm_law_spoiled cd_law_spoiled ct_law_spoiled : Value} {f_law_spoiled : Addr} {od_law_turned an_law_turned : Option Addr} {sl_law_turned : Array (Option Value)} {oc_law_turned kV_law_turned dc_law_turned pm_law_turned cd_law_turned ct_law_turned : Value} {f_law_turned : Addr} {od_law_tells an_law_tells : Option Addr} {sl_law_tells : Array (Option Value)} {oc_law_tells kV_law_tells dc_law_tells pm_law_tells cd_law_tells ct_law_tells : Value} {f_law_tells : Addr} {od_law_shared_right an_law_shared_right : Option Addr} {sl_law_shared_right : Array (Option Value)} {oc_law_shared_right kV_law_shared_right dc_law_shared_right pm_law_shared_right cd_law_shared_right ct_law_shared_right : Value} {f_law_shared_right : Addr} {odlaw anlaw : Option Addr} {sllaw : Array (Option Value)} {oclaw kVlaw dclaw pmlaw cdlaw ctlaw : Value} {flaw : Addr}
    (ais_integer : PySem.W.nsIn K mainGlobals "is_integer" = some (some (.ref fis_integer)))
    (lis_integer : K.lookup fis_integer = some ⟨ocis_integer, odis_integer, .func (PySem.W.fnOf "is_integer" "is_integer" (defArgs sis_integer) (defBody sis_integer) (defScope sis_integer) .none kVis_integer dcis_integer pmis_integer anis_integer cdis_integer ctis_integer), slis_integer⟩)
    (cis_integer : PySem.W.codeIn K cdis_integer "is_integer" = true)
    (kis_integer : PySem.W.keepIn K (.ref fis_integer) = true)
    (ais_between : PySem.W.nsIn K mainGlobals "is_between" = some (some (.ref fis_between)))
    (lis_between : K.lookup fis_between = some ⟨ocis_between, odis_between, .func (PySem.W.fnOf "is_between" "is_between" (defArgs sis_between) (defBody sis_between) (defScope sis_between) .none kVis_between dcis_between pmis_between anis_between cdis_between ctis_between), slis_between⟩)
    (cis_between : PySem.W.codeIn K cdis_between "is_between" = true)
    (kis_between : PySem.W.keepIn K (.ref fis_between) = true)
    (ais_bit : PySem.W.nsIn K mainGlobals "is_bit" = some (some (.ref fis_bit)))
    (lis_bit : K.lookup fis_bit = some ⟨ocis_bit, odis_bit, .func (PySem.W.fnOf "is_bit" "is_bit" (defArgs sis_bit) (defBody sis_bit) (defScope sis_bit) .none kVis_bit dcis_bit pmis_bit anis_bit cdis_bit ctis_bit), slis_bit⟩)
    (cis_bit : PySem.W.codeIn K cdis_bit "is_bit" = true)
    (kis_bit : PySem.W.keepIn K (.ref fis_bit) = true)
    (ais_index : PySem.W.nsIn K mainGlobals "is_index" = some (some (.ref fis_index)))
    (lis_index : K.lookup fis_index = some ⟨ocis_index, odis_index, .func (PySem.W.fnOf "is_index" "is_index" (defArgs sis_index) (defBody sis_index) (defScope sis_index) .none kVis_index dcis_index pmis_index anis_index cdis_index ctis_index), slis_index⟩)
    (cis_index : PySem.W.codeIn K cdis_index "is_index" = true)
    (kis_index : PySem.W.keepIn K (.ref fis_index) = true)
    (ais_cell_list : PySem.W.nsIn K mainGlobals "is_cell_list" = some (some (.ref fis_cell_list)))
    (lis_cell_list : K.lookup fis_cell_list = some ⟨ocis_cell_list, odis_cell_list, .func (PySem.W.fnOf "is_cell_list" "is_cell_list" (defArgs sis_cell_list) (defBody sis_cell_list) (defScope sis_cell_list) .none kVis_cell_list dcis_cell_list pmis_cell_list anis_cell_list cdis_cell_list ctis_cell_list), slis_cell_list⟩)
    (cis_cell_list : PySem.W.codeIn K cdis_cell_list "is_cell_list" = true)
    (kis_cell_list : PySem.W.keepIn K (.ref fis_cell_list) = true)
    (acopied : PySem.W.nsIn K mainGlobals "copied" = some (some (.ref fcopied)))
    (lcopied : K.lookup fcopied = some ⟨occopied, odcopied, .func (PySem.W.fnOf "copied" "copied" (defArgs scopied) (defBody scopied) (defScope scopied) .none kVcopied dccopied pmcopied ancopied cdcopied ctcopied), slcopied⟩)
    (ccopied : PySem.W.codeIn K cdcopied "copied" = true)
    (kcopied : PySem.W.keepIn K (.ref fcopied) = true)
    (ais_row : PySem.W.nsIn K mainGlobals "is_row" = some (some (.ref fis_row)))
    (lis_row : K.lookup fis_row = some ⟨ocis_row, odis_row, .func (PySem.W.fnOf "is_row" "is_row" (defArgs sis_row) (defBody sis_row) (defScope sis_row) .none kVis_row dcis_row pmis_row anis_row cdis_row ctis_row), slis_row⟩)
    (cis_row : PySem.W.codeIn K cdis_row "is_row" = true)
    (kis_row : PySem.W.keepIn K (.ref fis_row) = true)
    (ais_block_pair : PySem.W.nsIn K mainGlobals "is_block_pair" = some (some (.ref fis_block_pair)))
    (lis_block_pair : K.lookup fis_block_pair = some ⟨ocis_block_pair, odis_block_pair, .func (PySem.W.fnOf "is_block_pair" "is_block_pair" (defArgs sis_block_pair) (defBody sis_block_pair) (defScope sis_block_pair) .none kVis_block_pair dcis_block_pair pmis_block_pair anis_block_pair cdis_block_pair ctis_block_pair), slis_block_pair⟩)
    (cis_block_pair : PySem.W.codeIn K cdis_block_pair "is_block_pair" = true)
    (kis_block_pair : PySem.W.keepIn K (.ref fis_block_pair) = true)
    (ais_sized : PySem.W.nsIn K mainGlobals "is_sized" = some (some (.ref fis_sized)))
    (lis_sized : K.lookup fis_sized = some ⟨ocis_sized, odis_sized, .func (PySem.W.fnOf "is_sized" "is_sized" (defArgs sis_sized) (defBody sis_sized) (defScope sis_sized) .none kVis_sized dcis_sized pmis_sized anis_sized cdis_sized ctis_sized), slis_sized⟩)
    (cis_sized : PySem.W.codeIn K cdis_sized "is_sized" = true)
    (kis_sized : PySem.W.keepIn K (.ref fis_sized) = true)
    (ais_statement : PySem.W.nsIn K mainGlobals "is_statement" = some (some (.ref fis_statement)))
    (lis_statement : K.lookup fis_statement = some ⟨ocis_statement, odis_statement, .func (PySem.W.fnOf "is_statement" "is_statement" (defArgs sis_statement) (defBody sis_statement) (defScope sis_statement) .none kVis_statement dcis_statement pmis_statement anis_statement cdis_statement ctis_statement), slis_statement⟩)
    (cis_statement : PySem.W.codeIn K cdis_statement "is_statement" = true)
    (kis_statement : PySem.W.keepIn K (.ref fis_statement) = true)
    (ablocks_of : PySem.W.nsIn K mainGlobals "blocks_of" = some (some (.ref fblocks_of)))
    (lblocks_of : K.lookup fblocks_of = some ⟨ocblocks_of, odblocks_of, .func (PySem.W.fnOf "blocks_of" "blocks_of" (defArgs sblocks_of) (defBody sblocks_of) (defScope sblocks_of) .none kVblocks_of dcblocks_of pmblocks_of anblocks_of cdblocks_of ctblocks_of), slblocks_of⟩)
    (cblocks_of : PySem.W.codeIn K cdblocks_of "blocks_of" = true)
    (kblocks_of : PySem.W.keepIn K (.ref fblocks_of) = true)
    (aplaces : PySem.W.nsIn K mainGlobals "places" = some (some (.ref fplaces)))
    (lplaces : K.lookup fplaces = some ⟨ocplaces, odplaces, .func (PySem.W.fnOf "places" "places" (defArgs splaces) (defBody splaces) (defScope splaces) .none kVplaces dcplaces pmplaces anplaces cdplaces ctplaces), slplaces⟩)
    (cplaces : PySem.W.codeIn K cdplaces "places" = true)
    (kplaces : PySem.W.keepIn K (.ref fplaces) = true)
    (aentries : PySem.W.nsIn K mainGlobals "entries" = some (some (.ref fentries)))
    (lentries : K.lookup fentries = some ⟨ocentries, odentries, .func (PySem.W.fnOf "entries" "entries" (defArgs sentries) (defBody sentries) (defScope sentries) .none kVentries dcentries pmentries anentries cdentries ctentries), slentries⟩)
    (centries : PySem.W.codeIn K cdentries "entries" = true)
    (kentries : PySem.W.keepIn K (.ref fentries) = true)
    (afits : PySem.W.nsIn K mainGlobals "fits" = some (some (.ref ffits)))
    (lfits : K.lookup ffits = some ⟨ocfits, odfits, .func (PySem.W.fnOf "fits" "fits" (defArgs sfits) (defBody sfits) (defScope sfits) .none kVfits dcfits pmfits anfits cdfits ctfits), slfits⟩)
    (cfits : PySem.W.codeIn K cdfits "fits" = true)
    (kfits : PySem.W.keepIn K (.ref ffits) = true)
    (afirst_fault : PySem.W.nsIn K mainGlobals "first_fault" = some (some (.ref ffirst_fault)))
    (lfirst_fault : K.lookup ffirst_fault = some ⟨ocfirst_fault, odfirst_fault, .func (PySem.W.fnOf "first_fault" "first_fault" (defArgs sfirst_fault) (defBody sfirst_fault) (defScope sfirst_fault) .none kVfirst_fault dcfirst_fault pmfirst_fault anfirst_fault cdfirst_fault ctfirst_fault), slfirst_fault⟩)
    (cfirst_fault : PySem.W.codeIn K cdfirst_fault "first_fault" = true)
    (kfirst_fault : PySem.W.keepIn K (.ref ffirst_fault) = true)
    (acheck_bodies : PySem.W.nsIn K mainGlobals "check_bodies" = some (some (.ref fcheck_bodies)))
    (lcheck_bodies : K.lookup fcheck_bodies = some ⟨occheck_bodies, odcheck_bodies, .func (PySem.W.fnOf "check_bodies" "check_bodies" (defArgs scheck_bodies) (defBody scheck_bodies) (defScope scheck_bodies) .none kVcheck_bodies dccheck_bodies pmcheck_bodies ancheck_bodies cdcheck_bodies ctcheck_bodies), slcheck_bodies⟩)
    (ccheck_bodies : PySem.W.codeIn K cdcheck_bodies "check_bodies" = true)
    (kcheck_bodies : PySem.W.keepIn K (.ref fcheck_bodies) = true)
    (astatement_at : PySem.W.nsIn K mainGlobals "statement_at" = some (some (.ref fstatement_at)))
    (lstatement_at : K.lookup fstatement_at = some ⟨ocstatement_at, odstatement_at, .func (PySem.W.fnOf "statement_at" "statement_at" (defArgs sstatement_at) (defBody sstatement_at) (defScope sstatement_at) .none kVstatement_at dcstatement_at pmstatement_at anstatement_at cdstatement_at ctstatement_at), slstatement_at⟩)
    (cstatement_at : PySem.W.codeIn K cdstatement_at "statement_at" = true)
    (kstatement_at : PySem.W.keepIn K (.ref fstatement_at) = true)
    (aBook : PySem.W.nsIn K mainGlobals "Book" = some (some (.ref CBook)))
    (pgBook : PySem.W.plainGet K CBook Str.empty = true)
    (hdBook : PySem.W.hasDictIn K CBook = true)
    (poBook : PySem.W.plainOver K CBook = true)
    (saBook : PySem.W.findIn K (.ref CBook) "__setattr__" = some (some (.builtin "object.__setattr__")))
    (mkBook : PySem.W.makesIn K CBook = true)
    (kcBook : PySem.W.keepIn K (.ref CBook) = true)
    (nBook_cells : PySem.W.findIn K (.ref CBook) "_cells" = some none)
    (nBook_bodies : PySem.W.findIn K (.ref CBook) "_bodies" = some none)
    (qLIST_LIMIT : PySem.W.nsIn K mainGlobals "LIST_LIMIT" = some (some (.int 8 tLIST_LIMIT)))
    (qPROCEDURE_LIMIT : PySem.W.nsIn K mainGlobals "PROCEDURE_LIMIT" = some (some (.int 12 tPROCEDURE_LIMIT)))
    (qLAST_LEVEL : PySem.W.nsIn K mainGlobals "LAST_LEVEL" = some (some (.int 3 tLAST_LEVEL)))
    (qROW_LIMIT : PySem.W.nsIn K mainGlobals "ROW_LIMIT" = some (some (.int 9 tROW_LIMIT)))
    (qMOST_CELLS : PySem.W.nsIn K mainGlobals "MOST_CELLS" = some (some (.int 3 tMOST_CELLS)))
    (qMOST_PROCEDURES : PySem.W.nsIn K mainGlobals "MOST_PROCEDURES" = some (some (.int 3 tMOST_PROCEDURES)))
    (qSIZES : PySem.W.nsIn K mainGlobals "SIZES" = some (some (.ref a_SIZES)))
    (dSIZES : K.lookup a_SIZES = some ⟨.type "dict", none, .dict esSIZES nSIZES, #[]⟩)
    (klSIZES : PySem.W.KeysLit w.params esSIZES.toList)
    (loSIZES : (a_SIZES == sysModules) = false)
    (wSIZES0 : PySem.W.nsIn K a_SIZES "set" = some (some (.int 3 tSIZES0)))
    (wSIZES1 : PySem.W.nsIn K a_SIZES "carry" = some (some (.int 2 tSIZES1)))
    (wSIZES2 : PySem.W.nsIn K a_SIZES "keep" = some (some (.int 3 tSIZES2)))
    (wSIZES3 : PySem.W.nsIn K a_SIZES "either" = some (some (.int 3 tSIZES3)))
    (wSIZES4 : PySem.W.nsIn K a_SIZES "again" = some (some (.int 2 tSIZES4)))
    (wSIZES5 : PySem.W.nsIn K a_SIZES "call" = some (some (.int 4 tSIZES5)))
    (wSIZES6 : PySem.W.nsIn K a_SIZES "end" = some (some (.int 2 tSIZES6)))
    (aBook___init__ : PySem.W.findIn K (.ref CBook) "__init__" = some (some (.ref fBook___init__)))
    (iBook___init__ : PySem.W.isFn K (.ref fBook___init__) = true)
    (lBook___init__ : K.lookup fBook___init__ = some ⟨ocBook___init__, odBook___init__, .func (PySem.W.fnOf "__init__" "Book.__init__" (defArgs sBook___init__) (defBody sBook___init__) (defScope sBook___init__) .none kVBook___init__ dcBook___init__ pmBook___init__ anBook___init__ cdBook___init__ ctBook___init__), slBook___init__⟩)
    (cBook___init__ : PySem.W.codeIn K cdBook___init__ "Book.__init__" = true)
    (kBook___init__ : PySem.W.keepIn K (.ref fBook___init__) = true)
    (aBook_cells : PySem.W.findIn K (.ref CBook) "cells" = some (some (.ref fBook_cells)))
    (iBook_cells : PySem.W.isFn K (.ref fBook_cells) = true)
    (lBook_cells : K.lookup fBook_cells = some ⟨ocBook_cells, odBook_cells, .func (PySem.W.fnOf "cells" "Book.cells" (defArgs sBook_cells) (defBody sBook_cells) (defScope sBook_cells) .none kVBook_cells dcBook_cells pmBook_cells anBook_cells cdBook_cells ctBook_cells), slBook_cells⟩)
    (cBook_cells : PySem.W.codeIn K cdBook_cells "Book.cells" = true)
    (kBook_cells : PySem.W.keepIn K (.ref fBook_cells) = true)
    (aBook_bodies : PySem.W.findIn K (.ref CBook) "bodies" = some (some (.ref fBook_bodies)))
    (iBook_bodies : PySem.W.isFn K (.ref fBook_bodies) = true)
    (lBook_bodies : K.lookup fBook_bodies = some ⟨ocBook_bodies, odBook_bodies, .func (PySem.W.fnOf "bodies" "Book.bodies" (defArgs sBook_bodies) (defBody sBook_bodies) (defScope sBook_bodies) .none kVBook_bodies dcBook_bodies pmBook_bodies anBook_bodies cdBook_bodies ctBook_bodies), slBook_bodies⟩)
    (cBook_bodies : PySem.W.codeIn K cdBook_bodies "Book.bodies" = true)
    (kBook_bodies : PySem.W.keepIn K (.ref fBook_bodies) = true)
    (aBook___len__ : PySem.W.findIn K (.ref CBook) "__len__" = some (some (.ref fBook___len__)))
    (iBook___len__ : PySem.W.isFn K (.ref fBook___len__) = true)
    (lBook___len__ : K.lookup fBook___len__ = some ⟨ocBook___len__, odBook___len__, .func (PySem.W.fnOf "__len__" "Book.__len__" (defArgs sBook___len__) (defBody sBook___len__) (defScope sBook___len__) .none kVBook___len__ dcBook___len__ pmBook___len__ anBook___len__ cdBook___len__ ctBook___len__), slBook___len__⟩)
    (cBook___len__ : PySem.W.codeIn K cdBook___len__ "Book.__len__" = true)
    (kBook___len__ : PySem.W.keepIn K (.ref fBook___len__) = true)
    (aBook___eq__ : PySem.W.findIn K (.ref CBook) "__eq__" = some (some (.ref fBook___eq__)))
    (iBook___eq__ : PySem.W.isFn K (.ref fBook___eq__) = true)
    (lBook___eq__ : K.lookup fBook___eq__ = some ⟨ocBook___eq__, odBook___eq__, .func (PySem.W.fnOf "__eq__" "Book.__eq__" (defArgs sBook___eq__) (defBody sBook___eq__) (defScope sBook___eq__) .none kVBook___eq__ dcBook___eq__ pmBook___eq__ anBook___eq__ cdBook___eq__ ctBook___eq__), slBook___eq__⟩)
    (cBook___eq__ : PySem.W.codeIn K cdBook___eq__ "Book.__eq__" = true)
    (kBook___eq__ : PySem.W.keepIn K (.ref fBook___eq__) = true)
    (mbB : PySem.W.kitOne K (.ref CBook) (.ref CBook) = some true)
    (klB : PySem.W.findIn K (.ref CBook) "__class__" = some (some (.builtin "object.__class__")))
    (klG : PySem.W.specialIn K (.builtin "object.__class__") "__get__" = some (some (.builtin "getset_descriptor.__get__")))
    (klT : PySem.W.takesIn K (.builtin "object.__class__") = true)
    (klM : PySem.W.mroIn K CBook (.type "object") = some true)
    (a_law_pool : PySem.W.nsIn K mainGlobals "_law_pool" = some (some (.ref f_law_pool)))
    (l_law_pool : K.lookup f_law_pool = some ⟨oc_law_pool, od_law_pool, .func (PySem.W.fnOf "_law_pool" "_law_pool" (defArgs s_law_pool) (defBody s_law_pool) (defScope s_law_pool) .none kV_law_pool dc_law_pool pm_law_pool an_law_pool cd_law_pool ct_law_pool), sl_law_pool⟩)
    (c_law_pool : PySem.W.codeIn K cd_law_pool "_law_pool" = true)
    (k_law_pool : PySem.W.keepIn K (.ref f_law_pool) = true)
    (a_law_draw : PySem.W.nsIn K mainGlobals "_law_draw" = some (some (.ref f_law_draw)))
    (l_law_draw : K.lookup f_law_draw = some ⟨oc_law_draw, od_law_draw, .func (PySem.W.fnOf "_law_draw" "_law_draw" (defArgs s_law_draw) (defBody s_law_draw) (defScope s_law_draw) .none kV_law_draw dc_law_draw pm_law_draw an_law_draw cd_law_draw ct_law_draw), sl_law_draw⟩)
    (c_law_draw : PySem.W.codeIn K cd_law_draw "_law_draw" = true)
    (k_law_draw : PySem.W.keepIn K (.ref f_law_draw) = true)
    (a_law_row : PySem.W.nsIn K mainGlobals "_law_row" = some (some (.ref f_law_row)))
    (l_law_row : K.lookup f_law_row = some ⟨oc_law_row, od_law_row, .func (PySem.W.fnOf "_law_row" "_law_row" (defArgs s_law_row) (defBody s_law_row) (defScope s_law_row) .none kV_law_row dc_law_row pm_law_row an_law_row cd_law_row ct_law_row), sl_law_row⟩)
    (c_law_row : PySem.W.codeIn K cd_law_row "_law_row" = true)
    (k_law_row : PySem.W.keepIn K (.ref f_law_row) = true)
    (a_law_command : PySem.W.nsIn K mainGlobals "_law_command" = some (some (.ref f_law_command)))
    (l_law_command : K.lookup f_law_command = some ⟨oc_law_command, od_law_command, .func (PySem.W.fnOf "_law_command" "_law_command" (defArgs s_law_command) (defBody s_law_command) (defScope s_law_command) .none kV_law_command dc_law_command pm_law_command an_law_command cd_law_command ct_law_command), sl_law_command⟩)
    (c_law_command : PySem.W.codeIn K cd_law_command "_law_command" = true)
    (k_law_command : PySem.W.keepIn K (.ref f_law_command) = true)
    (a_law_some_cells : PySem.W.nsIn K mainGlobals "_law_some_cells" = some (some (.ref f_law_some_cells)))
    (l_law_some_cells : K.lookup f_law_some_cells = some ⟨oc_law_some_cells, od_law_some_cells, .func (PySem.W.fnOf "_law_some_cells" "_law_some_cells" (defArgs s_law_some_cells) (defBody s_law_some_cells) (defScope s_law_some_cells) .none kV_law_some_cells dc_law_some_cells pm_law_some_cells an_law_some_cells cd_law_some_cells ct_law_some_cells), sl_law_some_cells⟩)
    (c_law_some_cells : PySem.W.codeIn K cd_law_some_cells "_law_some_cells" = true)
    (k_law_some_cells : PySem.W.keepIn K (.ref f_law_some_cells) = true)
    (a_law_block : PySem.W.nsIn K mainGlobals "_law_block" = some (some (.ref f_law_block)))
    (l_law_block : K.lookup f_law_block = some ⟨oc_law_block, od_law_block, .func (PySem.W.fnOf "_law_block" "_law_block" (defArgs s_law_block) (defBody s_law_block) (defScope s_law_block) .none kV_law_block dc_law_block pm_law_block an_law_block cd_law_block ct_law_block), sl_law_block⟩)
    (c_law_block : PySem.W.codeIn K cd_law_block "_law_block" = true)
    (k_law_block : PySem.W.keepIn K (.ref f_law_block) = true)
    (a_law_statement : PySem.W.nsIn K mainGlobals "_law_statement" = some (some (.ref f_law_statement)))
    (l_law_statement : K.lookup f_law_statement = some ⟨oc_law_statement, od_law_statement, .func (PySem.W.fnOf "_law_statement" "_law_statement" (defArgs s_law_statement) (defBody s_law_statement) (defScope s_law_statement) .none kV_law_statement dc_law_statement pm_law_statement an_law_statement cd_law_statement ct_law_statement), sl_law_statement⟩)
    (c_law_statement : PySem.W.codeIn K cd_law_statement "_law_statement" = true)
    (k_law_statement : PySem.W.keepIn K (.ref f_law_statement) = true)
    (a_law_body : PySem.W.nsIn K mainGlobals "_law_body" = some (some (.ref f_law_body)))
    (l_law_body : K.lookup f_law_body = some ⟨oc_law_body, od_law_body, .func (PySem.W.fnOf "_law_body" "_law_body" (defArgs s_law_body) (defBody s_law_body) (defScope s_law_body) .none kV_law_body dc_law_body pm_law_body an_law_body cd_law_body ct_law_body), sl_law_body⟩)
    (c_law_body : PySem.W.codeIn K cd_law_body "_law_body" = true)
    (k_law_body : PySem.W.keepIn K (.ref f_law_body) = true)
    (a_law_bodies : PySem.W.nsIn K mainGlobals "_law_bodies" = some (some (.ref f_law_bodies)))
    (l_law_bodies : K.lookup f_law_bodies = some ⟨oc_law_bodies, od_law_bodies, .func (PySem.W.fnOf "_law_bodies" "_law_bodies" (defArgs s_law_bodies) (defBody s_law_bodies) (defScope s_law_bodies) .none kV_law_bodies dc_law_bodies pm_law_bodies an_law_bodies cd_law_bodies ct_law_bodies), sl_law_bodies⟩)
    (c_law_bodies : PySem.W.codeIn K cd_law_bodies "_law_bodies" = true)
    (k_law_bodies : PySem.W.keepIn K (.ref f_law_bodies) = true)
    (a_law_copied : PySem.W.nsIn K mainGlobals "_law_copied" = some (some (.ref f_law_copied)))
    (l_law_copied : K.lookup f_law_copied = some ⟨oc_law_copied, od_law_copied, .func (PySem.W.fnOf "_law_copied" "_law_copied" (defArgs s_law_copied) (defBody s_law_copied) (defScope s_law_copied) .none kV_law_copied dc_law_copied pm_law_copied an_law_copied cd_law_copied ct_law_copied), sl_law_copied⟩)
    (c_law_copied : PySem.W.codeIn K cd_law_copied "_law_copied" = true)
    (k_law_copied : PySem.W.keepIn K (.ref f_law_copied) = true)
    (a_law_same : PySem.W.nsIn K mainGlobals "_law_same" = some (some (.ref f_law_same)))
    (l_law_same : K.lookup f_law_same = some ⟨oc_law_same, od_law_same, .func (PySem.W.fnOf "_law_same" "_law_same" (defArgs s_law_same) (defBody s_law_same) (defScope s_law_same) .none kV_law_same dc_law_same pm_law_same an_law_same cd_law_same ct_law_same), sl_law_same⟩)
    (c_law_same : PySem.W.codeIn K cd_law_same "_law_same" = true)
    (k_law_same : PySem.W.keepIn K (.ref f_law_same) = true)
    (a_law_longer : PySem.W.nsIn K mainGlobals "_law_longer" = some (some (.ref f_law_longer)))
    (l_law_longer : K.lookup f_law_longer = some ⟨oc_law_longer, od_law_longer, .func (PySem.W.fnOf "_law_longer" "_law_longer" (defArgs s_law_longer) (defBody s_law_longer) (defScope s_law_longer) .none kV_law_longer dc_law_longer pm_law_longer an_law_longer cd_law_longer ct_law_longer), sl_law_longer⟩)
    (c_law_longer : PySem.W.codeIn K cd_law_longer "_law_longer" = true)
    (k_law_longer : PySem.W.keepIn K (.ref f_law_longer) = true)
    (a_law_spoiled : PySem.W.nsIn K mainGlobals "_law_spoiled" = some (some (.ref f_law_spoiled)))
    (l_law_spoiled : K.lookup f_law_spoiled = some ⟨oc_law_spoiled, od_law_spoiled, .func (PySem.W.fnOf "_law_spoiled" "_law_spoiled" (defArgs s_law_spoiled) (defBody s_law_spoiled) (defScope s_law_spoiled) .none kV_law_spoiled dc_law_spoiled pm_law_spoiled an_law_spoiled cd_law_spoiled ct_law_spoiled), sl_law_spoiled⟩)
    (c_law_spoiled : PySem.W.codeIn K cd_law_spoiled "_law_spoiled" = true)
    (k_law_spoiled : PySem.W.keepIn K (.ref f_law_spoiled) = true)
    (a_law_turned : PySem.W.nsIn K mainGlobals "_law_turned" = some (some (.ref f_law_turned)))
    (l_law_turned : K.lookup f_law_turned = some ⟨oc_law_turned, od_law_turned, .func (PySem.W.fnOf "_law_turned" "_law_turned" (defArgs s_law_turned) (defBody s_law_turned) (defScope s_law_turned) .none kV_law_turned dc_law_turned pm_law_turned an_law_turned cd_law_turned ct_law_turned), sl_law_turned⟩)
    (c_law_turned : PySem.W.codeIn K cd_law_turned "_law_turned" = true)
    (k_law_turned : PySem.W.keepIn K (.ref f_law_turned) = true)
    (a_law_tells : PySem.W.nsIn K mainGlobals "_law_tells" = some (some (.ref f_law_tells)))
    (l_law_tells : K.lookup f_law_tells = some ⟨oc_law_tells, od_law_tells, .func (PySem.W.fnOf "_law_tells" "_law_tells" (defArgs s_law_tells) (defBody s_law_tells) (defScope s_law_tells) .none kV_law_tells dc_law_tells pm_law_tells an_law_tells cd_law_tells ct_law_tells), sl_law_tells⟩)
    (c_law_tells : PySem.W.codeIn K cd_law_tells "_law_tells" = true)
    (k_law_tells : PySem.W.keepIn K (.ref f_law_tells) = true)
    (a_law_shared_right : PySem.W.nsIn K mainGlobals "_law_shared_right" = some (some (.ref f_law_shared_right)))
    (l_law_shared_right : K.lookup f_law_shared_right = some ⟨oc_law_shared_right, od_law_shared_right, .func (PySem.W.fnOf "_law_shared_right" "_law_shared_right" (defArgs s_law_shared_right) (defBody s_law_shared_right) (defScope s_law_shared_right) .none kV_law_shared_right dc_law_shared_right pm_law_shared_right an_law_shared_right cd_law_shared_right ct_law_shared_right), sl_law_shared_right⟩)
    (c_law_shared_right : PySem.W.codeIn K cd_law_shared_right "_law_shared_right" = true)
    (k_law_shared_right : PySem.W.keepIn K (.ref f_law_shared_right) = true)
    (alaw : PySem.W.nsIn K mainGlobals "law" = some (some (.ref flaw)))
    (llaw : K.lookup flaw = some ⟨oclaw, odlaw, .func (PySem.W.fnOf "law" "law" (defArgs slaw) (defBody slaw) (defScope slaw) .none kVlaw dclaw pmlaw anlaw cdlaw ctlaw), sllaw⟩)
    (claw : PySem.W.codeIn K cdlaw "law" = true)
    (klaw : PySem.W.keepIn K (.ref flaw) = true)
    (y_int : PySem.W.nsIn K mainGlobals "int" = some none)
    (y_len : PySem.W.nsIn K mainGlobals "len" = some none)
    (y_list : PySem.W.nsIn K mainGlobals "list" = some none)
    (y_tuple : PySem.W.nsIn K mainGlobals "tuple" = some none)
    (y_range : PySem.W.nsIn K mainGlobals "range" = some none)
    (y_isinstance : PySem.W.nsIn K mainGlobals "isinstance" = some none)
    (y_bool : PySem.W.nsIn K mainGlobals "bool" = some none)
    (y_str : PySem.W.nsIn K mainGlobals "str" = some none)
    (y_dict : PySem.W.nsIn K mainGlobals "dict" = some none)
    (y_all : PySem.W.nsIn K mainGlobals "all" = some none)
    (y_zip : PySem.W.nsIn K mainGlobals "zip" = some none)
    (y_enumerate : PySem.W.nsIn K mainGlobals "enumerate" = some none)
    (y_reversed : PySem.W.nsIn K mainGlobals "reversed" = some none) :
    ∃ fd : FuncData, (∀ (s : Shared) (v : Value), BindsTo s fd ⟨[v], []⟩ [("script", v)]) ∧ ∀ base : Heap, K.In base → base.Ns mainGlobals mg → FnOk l.prog w K mg base CX0 19 fa fd ["script"] (spLaw K) := by
  have e := hfa.symm.trans (PySem.W.mg_of X G alaw)
  cases e
  have Fis_integer := fun_mk (st := sis_integer) lis_integer cis_integer kis_integer
  have bis_integer := Fis_integer.binds (ps := ["value"]) fun _ _ _ _ _ _ us hl => match us, hl with | [_], _ => rfl
  have gis_integer := PySem.W.mg_of X G ais_integer
  have Fis_between := fun_mk (st := sis_between) lis_between cis_between kis_between
  have bis_between := Fis_between.binds (ps := ["value", "low", "high"]) fun _ _ _ _ _ _ us hl => match us, hl with | [_, _, _], _ => rfl
  have gis_between := PySem.W.mg_of X G ais_between
  have Fis_bit := fun_mk (st := sis_bit) lis_bit cis_bit kis_bit
  have bis_bit := Fis_bit.binds (ps := ["value"]) fun _ _ _ _ _ _ us hl => match us, hl with | [_], _ => rfl
  have gis_bit := PySem.W.mg_of X G ais_bit
  have Fis_index := fun_mk (st := sis_index) lis_index cis_index kis_index
  have bis_index := Fis_index.binds (ps := ["value", "many"]) fun _ _ _ _ _ _ us hl => match us, hl with | [_, _], _ => rfl
  have gis_index := PySem.W.mg_of X G ais_index
  have Fis_cell_list := fun_mk (st := sis_cell_list) lis_cell_list cis_cell_list kis_cell_list
  have bis_cell_list := Fis_cell_list.binds (ps := ["value", "cells"]) fun _ _ _ _ _ _ us hl => match us, hl with | [_, _], _ => rfl
  have gis_cell_list := PySem.W.mg_of X G ais_cell_list
  have Fcopied := fun_mk (st := scopied) lcopied ccopied kcopied
  have bcopied := Fcopied.binds (ps := ["value"]) fun _ _ _ _ _ _ us hl => match us, hl with | [_], _ => rfl
  have gcopied := PySem.W.mg_of X G acopied
  have Fis_row := fun_mk (st := sis_row) lis_row cis_row kis_row
  have bis_row := Fis_row.binds (ps := ["value", "cells"]) fun _ _ _ _ _ _ us hl => match us, hl with | [_, _], _ => rfl
  have gis_row := PySem.W.mg_of X G ais_row
  have Fis_block_pair := fun_mk (st := sis_block_pair) lis_block_pair cis_block_pair kis_block_pair
  have bis_block_pair := Fis_block_pair.binds (ps := ["value"]) fun _ _ _ _ _ _ us hl => match us, hl with | [_], _ => rfl
  have gis_block_pair := PySem.W.mg_of X G ais_block_pair
  have Fis_sized := fun_mk (st := sis_sized) lis_sized cis_sized kis_sized
  have bis_sized := Fis_sized.binds (ps := ["value"]) fun _ _ _ _ _ _ us hl => match us, hl with | [_], _ => rfl
  have gis_sized := PySem.W.mg_of X G ais_sized
  have Fis_statement := fun_mk (st := sis_statement) lis_statement cis_statement kis_statement
  have bis_statement := Fis_statement.binds (ps := ["value", "cells", "procedures"]) fun _ _ _ _ _ _ us hl => match us, hl with | [_, _, _], _ => rfl
  have gis_statement := PySem.W.mg_of X G ais_statement
  have Fblocks_of := fun_mk (st := sblocks_of) lblocks_of cblocks_of kblocks_of
  have bblocks_of := Fblocks_of.binds (ps := ["statement"]) fun _ _ _ _ _ _ us hl => match us, hl with | [_], _ => rfl
  have gblocks_of := PySem.W.mg_of X G ablocks_of
  have Fplaces := fun_mk (st := splaces) lplaces cplaces kplaces
  have bplaces := Fplaces.binds (ps := ["body"]) fun _ _ _ _ _ _ us hl => match us, hl with | [_], _ => rfl
  have gplaces := PySem.W.mg_of X G aplaces
  have Fentries := fun_mk (st := sentries) lentries centries kentries
  have bentries := Fentries.binds (ps := ["block", "path"]) fun _ _ _ _ _ _ us hl => match us, hl with | [_, _], _ => rfl
  have gentries := PySem.W.mg_of X G aentries
  have Ffits := fun_mk (st := sfits) lfits cfits kfits
  have bfits := Ffits.binds (ps := ["value", "path", "cells", "procedures"]) fun _ _ _ _ _ _ us hl => match us, hl with | [_, _, _, _], _ => rfl
  have gfits := PySem.W.mg_of X G afits
  have Ffirst_fault := fun_mk (st := sfirst_fault) lfirst_fault cfirst_fault kfirst_fault
  have bfirst_fault := Ffirst_fault.binds (ps := ["body", "cells", "procedures"]) fun _ _ _ _ _ _ us hl => match us, hl with | [_, _, _], _ => rfl
  have gfirst_fault := PySem.W.mg_of X G afirst_fault
  have Fcheck_bodies := fun_mk (st := scheck_bodies) lcheck_bodies ccheck_bodies kcheck_bodies
  have bcheck_bodies := Fcheck_bodies.binds (ps := ["cells", "bodies"]) fun _ _ _ _ _ _ us hl => match us, hl with | [_, _], _ => rfl
  have gcheck_bodies := PySem.W.mg_of X G acheck_bodies
  have Fstatement_at := fun_mk (st := sstatement_at) lstatement_at cstatement_at kstatement_at
  have bstatement_at := Fstatement_at.binds (ps := ["body", "path"]) fun _ _ _ _ _ _ us hl => match us, hl with | [_, _], _ => rfl
  have gstatement_at := PySem.W.mg_of X G astatement_at
  have gBook := PySem.W.mg_of X G aBook
  have clBook : Cls K CBook := ⟨pgBook, hdBook, poBook, saBook⟩
  have c_LIST_LIMIT := PySem.W.mg_of X G qLIST_LIMIT
  have c_PROCEDURE_LIMIT := PySem.W.mg_of X G qPROCEDURE_LIMIT
  have c_LAST_LEVEL := PySem.W.mg_of X G qLAST_LEVEL
  have c_ROW_LIMIT := PySem.W.mg_of X G qROW_LIMIT
  have c_MOST_CELLS := PySem.W.mg_of X G qMOST_CELLS
  have c_MOST_PROCEDURES := PySem.W.mg_of X G qMOST_PROCEDURES
  have c_SIZES := PySem.W.mg_of X G qSIZES
  have FBook___init__ := fun_mk (st := sBook___init__) lBook___init__ cBook___init__ kBook___init__
  have bBook___init__ := FBook___init__.binds (ps := ["self", "cells", "bodies"]) fun _ _ _ _ _ _ us hl => match us, hl with | [_, _, _], _ => rfl
  have FBook_cells := fun_mk (st := sBook_cells) lBook_cells cBook_cells kBook_cells
  have bBook_cells := FBook_cells.binds (ps := ["self"]) fun _ _ _ _ _ _ us hl => match us, hl with | [_], _ => rfl
  have FBook_bodies := fun_mk (st := sBook_bodies) lBook_bodies cBook_bodies kBook_bodies
  have bBook_bodies := FBook_bodies.binds (ps := ["self"]) fun _ _ _ _ _ _ us hl => match us, hl with | [_], _ => rfl
  have FBook___len__ := fun_mk (st := sBook___len__) lBook___len__ cBook___len__ kBook___len__
  have bBook___len__ := FBook___len__.binds (ps := ["self"]) fun _ _ _ _ _ _ us hl => match us, hl with | [_], _ => rfl
  have FBook___eq__ := fun_mk (st := sBook___eq__) lBook___eq__ cBook___eq__ kBook___eq__
  have bBook___eq__ := FBook___eq__.binds (ps := ["self", "other"]) fun _ _ _ _ _ _ us hl => match us, hl with | [_, _], _ => rfl
  have F_law_pool := fun_mk (st := s_law_pool) l_law_pool c_law_pool k_law_pool
  have b_law_pool := F_law_pool.binds (ps := ["script"]) fun _ _ _ _ _ _ us hl => match us, hl with | [_], _ => rfl
  have g_law_pool := PySem.W.mg_of X G a_law_pool
  have F_law_draw := fun_mk (st := s_law_draw) l_law_draw c_law_draw k_law_draw
  have b_law_draw := F_law_draw.binds (ps := ["pool", "many"]) fun _ _ _ _ _ _ us hl => match us, hl with | [_, _], _ => rfl
  have g_law_draw := PySem.W.mg_of X G a_law_draw
  have F_law_row := fun_mk (st := s_law_row) l_law_row c_law_row k_law_row
  have b_law_row := F_law_row.binds (ps := ["pool", "cells"]) fun _ _ _ _ _ _ us hl => match us, hl with | [_, _], _ => rfl
  have g_law_row := PySem.W.mg_of X G a_law_row
  have F_law_command := fun_mk (st := s_law_command) l_law_command c_law_command k_law_command
  have b_law_command := F_law_command.binds (ps := ["pool", "cells"]) fun _ _ _ _ _ _ us hl => match us, hl with | [_, _], _ => rfl
  have g_law_command := PySem.W.mg_of X G a_law_command
  have F_law_some_cells := fun_mk (st := s_law_some_cells) l_law_some_cells c_law_some_cells k_law_some_cells
  have b_law_some_cells := F_law_some_cells.binds (ps := ["pool", "cells"]) fun _ _ _ _ _ _ us hl => match us, hl with | [_, _], _ => rfl
  have g_law_some_cells := PySem.W.mg_of X G a_law_some_cells
  have F_law_block := fun_mk (st := s_law_block) l_law_block c_law_block k_law_block
  have b_law_block := F_law_block.binds (ps := ["pool", "world", "tier", "most"]) fun _ _ _ _ _ _ us hl => match us, hl with | [_, _, _, _], _ => rfl
  have g_law_block := PySem.W.mg_of X G a_law_block
  have F_law_statement := fun_mk (st := s_law_statement) l_law_statement c_law_statement k_law_statement
  have b_law_statement := F_law_statement.binds (ps := ["pool", "world", "tier"]) fun _ _ _ _ _ _ us hl => match us, hl with | [_, _, _], _ => rfl
  have g_law_statement := PySem.W.mg_of X G a_law_statement
  have F_law_body := fun_mk (st := s_law_body) l_law_body c_law_body k_law_body
  have b_law_body := F_law_body.binds (ps := ["pool", "cells", "many", "room", "tier"]) fun _ _ _ _ _ _ us hl => match us, hl with | [_, _, _, _, _], _ => rfl
  have g_law_body := PySem.W.mg_of X G a_law_body
  have F_law_bodies := fun_mk (st := s_law_bodies) l_law_bodies c_law_bodies k_law_bodies
  have b_law_bodies := F_law_bodies.binds (ps := ["pool", "cells", "many", "room"]) fun _ _ _ _ _ _ us hl => match us, hl with | [_, _, _, _], _ => rfl
  have g_law_bodies := PySem.W.mg_of X G a_law_bodies
  have F_law_copied := fun_mk (st := s_law_copied) l_law_copied c_law_copied k_law_copied
  have b_law_copied := F_law_copied.binds (ps := ["value"]) fun _ _ _ _ _ _ us hl => match us, hl with | [_], _ => rfl
  have g_law_copied := PySem.W.mg_of X G a_law_copied
  have F_law_same := fun_mk (st := s_law_same) l_law_same c_law_same k_law_same
  have b_law_same := F_law_same.binds (ps := ["actual", "due"]) fun _ _ _ _ _ _ us hl => match us, hl with | [_, _], _ => rfl
  have g_law_same := PySem.W.mg_of X G a_law_same
  have F_law_longer := fun_mk (st := s_law_longer) l_law_longer c_law_longer k_law_longer
  have b_law_longer := F_law_longer.binds (ps := ["value"]) fun _ _ _ _ _ _ us hl => match us, hl with | [_], _ => rfl
  have g_law_longer := PySem.W.mg_of X G a_law_longer
  have F_law_spoiled := fun_mk (st := s_law_spoiled) l_law_spoiled c_law_spoiled k_law_spoiled
  have b_law_spoiled := F_law_spoiled.binds (ps := ["value"]) fun _ _ _ _ _ _ us hl => match us, hl with | [_], _ => rfl
  have g_law_spoiled := PySem.W.mg_of X G a_law_spoiled
  have F_law_turned := fun_mk (st := s_law_turned) l_law_turned c_law_turned k_law_turned
  have b_law_turned := F_law_turned.binds (ps := ["value", "left"]) fun _ _ _ _ _ _ us hl => match us, hl with | [_, _], _ => rfl
  have g_law_turned := PySem.W.mg_of X G a_law_turned
  have F_law_tells := fun_mk (st := s_law_tells) l_law_tells c_law_tells k_law_tells
  have b_law_tells := F_law_tells.binds (ps := ["book", "cells", "bodies"]) fun _ _ _ _ _ _ us hl => match us, hl with | [_, _, _], _ => rfl
  have g_law_tells := PySem.W.mg_of X G a_law_tells
  have F_law_shared_right := fun_mk (st := s_law_shared_right) l_law_shared_right c_law_shared_right k_law_shared_right
  have b_law_shared_right := F_law_shared_right.binds (ps := ["pool", "cells"]) fun _ _ _ _ _ _ us hl => match us, hl with | [_, _], _ => rfl
  have g_law_shared_right := PySem.W.mg_of X G a_law_shared_right
  have Flaw := fun_mk (st := slaw) llaw claw klaw
  have blaw := Flaw.binds (ps := ["script"]) fun _ _ _ _ _ _ us hl => match us, hl with | [_], _ => rfl
  have glaw := PySem.W.mg_of X G alaw
  have z_int := PySem.W.mg_none_of X G y_int
  have z_len := PySem.W.mg_none_of X G y_len
  have z_list := PySem.W.mg_none_of X G y_list
  have z_tuple := PySem.W.mg_none_of X G y_tuple
  have z_range := PySem.W.mg_none_of X G y_range
  have z_isinstance := PySem.W.mg_none_of X G y_isinstance
  have z_bool := PySem.W.mg_none_of X G y_bool
  have z_str := PySem.W.mg_none_of X G y_str
  have z_dict := PySem.W.mg_none_of X G y_dict
  have z_all := PySem.W.mg_none_of X G y_all
  have z_zip := PySem.W.mg_none_of X G y_zip
  have z_enumerate := PySem.W.mg_none_of X G y_enumerate
  have z_reversed := PySem.W.mg_none_of X G y_reversed
  refine ⟨PySem.W.fnOf "law" "law" (defArgs slaw) (defBody slaw) (defScope slaw) .none kVlaw dclaw pmlaw anlaw cdlaw ctlaw, fun s v => .of_eq rfl, fun base _ _ => ?_⟩
  have S7 : Sizes K w a_SIZES esSIZES nSIZES ok7 := sizes7 ⟨dSIZES, klSIZES, loSIZES⟩ wSIZES0 wSIZES1 wSIZES2 wSIZES3 wSIZES4 wSIZES5 wSIZES6
  have Cis_integer : Cal l.prog w K mg base 1 "is_integer" (spInt K) [] := ⟨_, _, _, [], ok_is_integer Fis_integer z_isinstance z_int z_bool, gis_integer, Fis_integer.kp, bis_integer, .nil⟩
  have Cis_between : Cal l.prog w K mg base 2 "is_between" (spBtw K) [] := ⟨_, _, _, [], ok_is_between Fis_between Cis_integer (by decide), gis_between, Fis_between.kp, bis_between, .nil⟩
  have Cis_bit : Cal l.prog w K mg base 3 "is_bit" (spBit K) [] := ⟨_, _, _, [], ok_is_bit Fis_bit Cis_between (by decide), gis_bit, Fis_bit.kp, bis_bit, .nil⟩
  have Cis_index : Cal l.prog w K mg base 3 "is_index" (spIx K) [] := ⟨_, _, _, [], ok_is_index Fis_index Cis_between (by decide), gis_index, Fis_index.kp, bis_index, .nil⟩
  have Cis_row : Cal l.prog w K mg base 3 "is_row" (spRw K) [] := ⟨_, _, _, [], ok_is_row Fis_row z_isinstance z_list z_len z_all c_ROW_LIMIT Cis_between (by decide), gis_row, Fis_row.kp, bis_row, .nil⟩
  have Cis_block_pair : Cal l.prog w K mg base 1 "is_block_pair" (spPair K) [] := ⟨_, _, _, [], ok_is_block_pair Fis_block_pair z_isinstance z_list z_len, gis_block_pair, Fis_block_pair.kp, bis_block_pair, .nil⟩
  have Cis_sized : Cal l.prog w K mg base 1 "is_sized" (spSized K ok7) [] := ⟨_, _, _, [], ok_is_sized Fis_sized z_isinstance z_tuple z_str z_len c_SIZES S7, gis_sized, Fis_sized.kp, bis_sized, .nil⟩
  have Cis_cell_list : Cal l.prog w K mg base 4 "is_cell_list" (spCl K) [] := ⟨_, _, _, [], ok_is_cell_list Fis_cell_list z_isinstance z_list z_all z_zip Cis_index (by decide), gis_cell_list, Fis_cell_list.kp, bis_cell_list, .nil⟩
  have Cis_statement : Cal l.prog w K mg base 5 "is_statement" (spStm K ok7) [] := ⟨_, _, _, [], ok_is_statement Fis_statement z_isinstance z_list Cis_sized Cis_index Cis_bit Cis_row Cis_cell_list Cis_block_pair (by decide), gis_statement, Fis_statement.kp, bis_statement, .nil⟩
  have Cblocks_of : Cal l.prog w K mg base 1 "blocks_of" (spBlocks K) [] := ⟨_, _, _, [], ok_blocks_of Fblocks_of, gblocks_of, Fblocks_of.kp, bblocks_of, .nil⟩
  have Centries : Cal l.prog w K mg base 1 "entries" (spEntries K) [] := ⟨_, _, _, [], ok_entries Fentries z_range z_reversed z_len, gentries, Fentries.kp, bentries, .nil⟩
  have Cfits : Cal l.prog w K mg base 6 "fits" (spFits K ok7) [] := ⟨_, _, _, [], ok_fits Ffits z_len c_LIST_LIMIT c_LAST_LEVEL Cis_statement Cblocks_of (by decide), gfits, Ffits.kp, bfits, .nil⟩
  have Cfirst_fault : Cal l.prog w K mg base 7 "first_fault" (spFF K ok7) [] := ⟨_, _, _, [], ok_first_fault Ffirst_fault z_range z_reversed z_len c_PROCEDURE_LIMIT Centries Cfits Cblocks_of (by decide), gfirst_fault, Ffirst_fault.kp, bfirst_fault, .nil⟩
  have Ccheck_bodies : Cal l.prog w K mg base 8 "check_bodies" (spChk K ok7) [] := ⟨_, _, _, [], ok_check_bodies Fcheck_bodies z_isinstance z_list z_len z_enumerate c_MOST_PROCEDURES Cfirst_fault (by decide), gcheck_bodies, Fcheck_bodies.kp, bcheck_bodies, .nil⟩
  have Ccopied : Cal l.prog w K mg base 15 "copied" (spCopy K 15) [] := ⟨_, _, _, [], ok_copied Fcopied gcopied bcopied z_isinstance z_list z_tuple z_dict 15, gcopied, Fcopied.kp, bcopied, .nil⟩
  have MBook : C8.Mak l.prog w K mg base 16 "Book" CBook (spInit K ok7 CBook 15) [] := mak_Book ⟨mkBook, aBook___init__, iBook___init__, kcBook⟩ gBook FBook___init__ bBook___init__ clBook nBook_cells nBook_bodies c_MOST_CELLS Cis_between Ccheck_bodies Ccopied (by decide) (by decide)
  have CcopiedT : Cal l.prog w K mg base 15 "copied" (spCopyT K 15) [] := ⟨_, _, _, [], ok_copiedT Fcopied gcopied bcopied z_isinstance z_list z_tuple z_dict 15, gcopied, Fcopied.kp, bcopied, .nil⟩
  have OB := ok_bodiesT (P := l.prog) (w := w) (base := base) (k := 15) (cn := 15) FBook_bodies clBook nBook_bodies CcopiedT (by decide)
  have OC := ok_cells_told (P := l.prog) (w := w) (mg := mg) (base := base) (k := 0) FBook_cells clBook nBook_cells
  have OL := ok_len (P := l.prog) (w := w) (base := base) (k := 0) FBook___len__ clBook nBook_bodies z_len
  have OE := ok_eq (P := l.prog) (w := w) (base := base) (k := 0) FBook___eq__ clBook nBook_cells nBook_bodies z_isinstance gBook mbB (fun H y dx fs h => .base (.ins h clBook klB klG klT klM))
  have C_law_pool : Cal l.prog w K mg base 1 "_law_pool" (spPool K) [] := ⟨_, _, _, [], ok_pool F_law_pool z_int z_list, g_law_pool, F_law_pool.kp, b_law_pool, .nil⟩
  have C_law_draw : Cal l.prog w K mg base 1 "_law_draw" spDraw [] := ⟨_, _, _, [], ok_draw F_law_draw z_int z_len, g_law_draw, F_law_draw.kp, b_law_draw, .nil⟩
  have C_law_row : Cal l.prog w K mg base 2 "_law_row" spRow [] := ⟨_, _, _, [], ok_row F_law_row z_range C_law_draw (by decide), g_law_row, F_law_row.kp, b_law_row, .nil⟩
  have C_law_command : Cal l.prog w K mg base 3 "_law_command" spCmd [] := ⟨_, _, _, [], ok_command F_law_command C_law_draw C_law_row (by decide), g_law_command, F_law_command.kp, b_law_command, .nil⟩
  have C_law_some_cells : Cal l.prog w K mg base 2 "_law_some_cells" spCells [] := ⟨_, _, _, [], ok_cells F_law_some_cells z_range C_law_draw (by decide), g_law_some_cells, F_law_some_cells.kp, b_law_some_cells, .nil⟩
  have LV := gen_levels F_law_statement F_law_block g_law_statement g_law_block b_law_statement b_law_block z_range C_law_draw C_law_row C_law_command C_law_some_cells
  have C_law_statement : Cal l.prog w K mg base 10 "_law_statement" (spStmt 0) [] := (LV 3 1 rfl).2 0 rfl
  have C_law_block : Cal l.prog w K mg base 11 "_law_block" (spBlk 0) [] := (LV 4 0 rfl).1
  have C_law_body : Cal l.prog w K mg base 12 "_law_body" spBody [] := ⟨_, _, _, [], ok_body F_law_body C_law_statement C_law_block (by decide), g_law_body, F_law_body.kp, b_law_body, .nil⟩
  have C_law_bodies : Cal l.prog w K mg base 13 "_law_bodies" spBodies [] := ⟨_, _, _, [], ok_bodies F_law_bodies z_range C_law_body (by decide), g_law_bodies, F_law_bodies.kp, b_law_bodies, .nil⟩
  have C_law_copied : Cal l.prog w K mg base 15 "_law_copied" (spCopyT K 15) [] := ⟨_, _, _, [], ok_lcopiedT F_law_copied g_law_copied b_law_copied z_isinstance z_list z_tuple 15, g_law_copied, F_law_copied.kp, b_law_copied, .nil⟩
  have C_law_same : Cal l.prog w K mg base 15 "_law_same" (spSame K 15) [] := ⟨_, _, _, [], ok_same F_law_same g_law_same b_law_same z_len z_isinstance z_bool z_int z_str z_list z_tuple z_range 15, g_law_same, F_law_same.kp, b_law_same, .nil⟩
  have C_law_longer : Cal l.prog w K mg base 15 "_law_longer" (spLong K 15) [] := ⟨_, _, _, [], ok_longer F_law_longer g_law_longer b_law_longer z_isinstance z_list z_tuple 15, g_law_longer, F_law_longer.kp, b_law_longer, .nil⟩
  have C_law_spoiled : Cal l.prog w K mg base 15 "_law_spoiled" (spSpoil 15) [] := ⟨_, _, _, [], ok_spoiled F_law_spoiled g_law_spoiled b_law_spoiled z_isinstance z_list z_tuple 15, g_law_spoiled, F_law_spoiled.kp, b_law_spoiled, .nil⟩
  have C_law_turned : Cal l.prog w K mg base 15 "_law_turned" (spTurn K 15) [] := ⟨_, _, _, [], ok_turned F_law_turned g_law_turned b_law_turned z_isinstance z_list z_tuple z_int z_len 15, g_law_turned, F_law_turned.kp, b_law_turned, .nil⟩
  have C_law_tells : Cal l.prog w K mg base 17 "_law_tells" (spTells K CBook) [] := ⟨_, _, _, [], ok_tells (k := 16) F_law_tells clBook OC ⟨aBook_cells, iBook_cells, kBook_cells⟩ bBook_cells OB ⟨aBook_bodies, iBook_bodies, kBook_bodies⟩ bBook_bodies OL aBook___len__ iBook___len__ bBook___len__ z_len C_law_same (by decide), g_law_tells, F_law_tells.kp, b_law_tells, .nil⟩
  have C_law_shared_right : Cal l.prog w K mg base 18 "_law_shared_right" spShr [] := ⟨_, _, _, [], ok_shared (k := 17) F_law_shared_right ok7_words clBook OB ⟨aBook_bodies, iBook_bodies, kBook_bodies⟩ bBook_bodies C_law_row C_law_copied MBook C_law_same C_law_longer C_law_spoiled C_law_tells (by decide), g_law_shared_right, F_law_shared_right.kp, b_law_shared_right, .nil⟩
  exact ok_law (k := 18) Flaw ok7_words clBook OB ⟨aBook_bodies, iBook_bodies, kBook_bodies⟩ bBook_bodies OE aBook___eq__ iBook___eq__ bBook___eq__ z_list z_reversed C_law_pool C_law_draw C_law_bodies C_law_copied C_law_same MBook C_law_longer C_law_spoiled C_law_turned C_law_tells C_law_shared_right (by decide)
end My
open PySem PySem.W PyProof.Rows
set_option maxHeartbeats 0 in
theorem PySem.Challenge.cw_sharedboard_k02_books_told_holds : PySem.Challenge.rw_sharedboard_k02_books_told.Holds := by
  w_on; o_law; k_head; (case hw => w_witness2)
  k_fill
  refine L2.walk_of (l := PySem.Challenge.rw_sharedboard_k02_books_told) (n := 63) (k := 19) (x := "script") (CX := fun _ => L2.CX0) (sp := fun w => My.spLaw _) rfl (by decide) rfl ⟨rfl, by decide, by decide⟩ (fun w h Y => PySem.W.kIn_of Y) ?F (fun _ _ a ns hl _ hS => ⟨a, ns, rfl, hS, fun _ => rfl⟩) (fun _ _ _ _ _ h => h)
  case F =>
    intro w mg fa h KX G hmg
    refine' My.all_mk KX G hmg ?ais_integer ?lis_integer ?cis_integer ?kis_integer ?ais_between ?lis_between ?cis_between ?kis_between ?ais_bit ?lis_bit ?cis_bit ?kis_bit ?ais_index ?lis_index ?cis_index ?kis_index ?ais_cell_list ?lis_cell_list ?cis_cell_list ?kis_cell_list ?acopied ?lcopied ?ccopied ?kcopied ?ais_row ?lis_row ?cis_row ?kis_row ?ais_block_pair ?lis_block_pair ?cis_block_pair ?kis_block_pair ?ais_sized ?lis_sized ?cis_sized ?kis_sized ?ais_statement ?lis_statement ?cis_statement ?kis_statement ?ablocks_of ?lblocks_of ?cblocks_of ?kblocks_of ?aplaces ?lplaces ?cplaces ?kplaces ?aentries ?lentries ?centries ?kentries ?afits ?lfits ?cfits ?kfits ?afirst_fault ?lfirst_fault ?cfirst_fault ?kfirst_fault ?acheck_bodies ?lcheck_bodies ?ccheck_bodies ?kcheck_bodies ?astatement_at ?lstatement_at ?cstatement_at ?kstatement_at ?aBook ?pgBook ?hdBook ?poBook ?saBook ?mkBook ?kcBook ?nBook_cells ?nBook_bodies ?qLIST_LIMIT ?qPROCEDURE_LIMIT ?qLAST_LEVEL ?qROW_LIMIT ?qMOST_CELLS ?qMOST_PROCEDURES ?qSIZES ?dSIZES ?klSIZES ?loSIZES ?wSIZES0 ?wSIZES1 ?wSIZES2 ?wSIZES3 ?wSIZES4 ?wSIZES5 ?wSIZES6 ?aBook___init__ ?iBook___init__ ?lBook___init__ ?cBook___init__ ?kBook___init__ ?aBook_cells ?iBook_cells ?lBook_cells ?cBook_cells ?kBook_cells ?aBook_bodies ?iBook_bodies ?lBook_bodies ?cBook_bodies ?kBook_bodies ?aBook___len__ ?iBook___len__ ?lBook___len__ ?cBook___len__ ?kBook___len__ ?aBook___eq__ ?iBook___eq__ ?lBook___eq__ ?cBook___eq__ ?kBook___eq__ ?mbB ?klB ?klG ?klT ?klM ?a_law_pool ?l_law_pool ?c_law_pool ?k_law_pool ?a_law_draw ?l_law_draw ?c_law_draw ?k_law_draw ?a_law_row ?l_law_row ?c_law_row ?k_law_row ?a_law_command ?l_law_command ?c_law_command ?k_law_command ?a_law_some_cells ?l_law_some_cells ?c_law_some_cells ?k_law_some_cells ?a_law_block ?l_law_block ?c_law_block ?k_law_block ?a_law_statement ?l_law_statement ?c_law_statement ?k_law_statement ?a_law_body ?l_law_body ?c_law_body ?k_law_body ?a_law_bodies ?l_law_bodies ?c_law_bodies ?k_law_bodies ?a_law_copied ?l_law_copied ?c_law_copied ?k_law_copied ?a_law_same ?l_law_same ?c_law_same ?k_law_same ?a_law_longer ?l_law_longer ?c_law_longer ?k_law_longer ?a_law_spoiled ?l_law_spoiled ?c_law_spoiled ?k_law_spoiled ?a_law_turned ?l_law_turned ?c_law_turned ?k_law_turned ?a_law_tells ?l_law_tells ?c_law_tells ?k_law_tells ?a_law_shared_right ?l_law_shared_right ?c_law_shared_right ?k_law_shared_right ?alaw ?llaw ?claw ?klaw ?y_int ?y_len ?y_list ?y_tuple ?y_range ?y_isinstance ?y_bool ?y_str ?y_dict ?y_all ?y_zip ?y_enumerate ?y_reversed
    (case ais_integer => k_is)
    (case lis_integer => k_is)
    (case cis_integer => k_is)
    (case kis_integer => k_is)
    (case ais_between => k_is)
    (case lis_between => k_is)
    (case cis_between => k_is)
    (case kis_between => k_is)
    (case ais_bit => k_is)
    (case lis_bit => k_is)
    (case cis_bit => k_is)
    (case kis_bit => k_is)
    (case ais_index => k_is)
    (case lis_index => k_is)
    (case cis_index => k_is)
    (case kis_index => k_is)
    (case ais_cell_list => k_is)
    (case lis_cell_list => k_is)
    (case cis_cell_list => k_is)
    (case kis_cell_list => k_is)
    (case acopied => k_is)
    (case lcopied => k_is)
    (case ccopied => k_is)
    (case kcopied => k_is)
    (case ais_row => k_is)
    (case lis_row => k_is)
    (case cis_row => k_is)
    (case kis_row => k_is)
    (case ais_block_pair => k_is)
    (case lis_block_pair => k_is)
    (case cis_block_pair => k_is)
    (case kis_block_pair => k_is)
    (case ais_sized => k_is)
    (case lis_sized => k_is)
    (case cis_sized => k_is)
    (case kis_sized => k_is)
    (case ais_statement => k_is)
    (case lis_statement => k_is)
    (case cis_statement => k_is)
    (case kis_statement => k_is)
    (case ablocks_of => k_is)
    (case lblocks_of => k_is)
    (case cblocks_of => k_is)
    (case kblocks_of => k_is)
    (case aplaces => k_is)
    (case lplaces => k_is)
    (case cplaces => k_is)
    (case kplaces => k_is)
    (case aentries => k_is)
    (case lentries => k_is)
    (case centries => k_is)
    (case kentries => k_is)
    (case afits => k_is)
    (case lfits => k_is)
    (case cfits => k_is)
    (case kfits => k_is)
    (case afirst_fault => k_is)
    (case lfirst_fault => k_is)
    (case cfirst_fault => k_is)
    (case kfirst_fault => k_is)
    (case acheck_bodies => k_is)
    (case lcheck_bodies => k_is)
    (case ccheck_bodies => k_is)
    (case kcheck_bodies => k_is)
    (case astatement_at => k_is)
    (case lstatement_at => k_is)
    (case cstatement_at => k_is)
    (case kstatement_at => k_is)
    (case aBook => k_is)
    (case pgBook => k_is)
    (case hdBook => k_is)
    (case poBook => k_is)
    (case saBook => k_is)
    (case mkBook => k_is)
    (case kcBook => k_is)
    (case nBook_cells => k_is)
    (case nBook_bodies => k_is)
    (case qLIST_LIMIT => k_is)
    (case qPROCEDURE_LIMIT => k_is)
    (case qLAST_LEVEL => k_is)
    (case qROW_LIMIT => k_is)
    (case qMOST_CELLS => k_is)
    (case qMOST_PROCEDURES => k_is)
    (case qSIZES => k_is)
    (case dSIZES => k_is)
    (case klSIZES => k_keys)
    (case loSIZES => first | rfl | decide | k_is)
    (case wSIZES0 => k_is)
    (case wSIZES1 => k_is)
    (case wSIZES2 => k_is)
    (case wSIZES3 => k_is)
    (case wSIZES4 => k_is)
    (case wSIZES5 => k_is)
    (case wSIZES6 => k_is)
    (case aBook___init__ => k_is)
    (case iBook___init__ => k_is)
    (case lBook___init__ => k_is)
    (case cBook___init__ => k_is)
    (case kBook___init__ => k_is)
    (case aBook_cells => k_is)
    (case iBook_cells => k_is)
    (case lBook_cells => k_is)
    (case cBook_cells => k_is)
    (case kBook_cells => k_is)
    (case aBook_bodies => k_is)
    (case iBook_bodies => k_is)
    (case lBook_bodies => k_is)
    (case cBook_bodies => k_is)
    (case kBook_bodies => k_is)
    (case aBook___len__ => k_is)
    (case iBook___len__ => k_is)
    (case lBook___len__ => k_is)
    (case cBook___len__ => k_is)
    (case kBook___len__ => k_is)
    (case aBook___eq__ => k_is)
    (case iBook___eq__ => k_is)
    (case lBook___eq__ => k_is)
    (case cBook___eq__ => k_is)
    (case kBook___eq__ => k_is)
    (case mbB => first | rfl | k_is)
    (case klB => k_is)
    (case klG => first | rfl | k_is)
    (case klT => first | rfl | k_is)
    (case klM => first | rfl | k_is)
    (case a_law_pool => k_is)
    (case l_law_pool => k_is)
    (case c_law_pool => k_is)
    (case k_law_pool => k_is)
    (case a_law_draw => k_is)
    (case l_law_draw => k_is)
    (case c_law_draw => k_is)
    (case k_law_draw => k_is)
    (case a_law_row => k_is)
    (case l_law_row => k_is)
    (case c_law_row => k_is)
    (case k_law_row => k_is)
    (case a_law_command => k_is)
    (case l_law_command => k_is)
    (case c_law_command => k_is)
    (case k_law_command => k_is)
    (case a_law_some_cells => k_is)
    (case l_law_some_cells => k_is)
    (case c_law_some_cells => k_is)
    (case k_law_some_cells => k_is)
    (case a_law_block => k_is)
    (case l_law_block => k_is)
    (case c_law_block => k_is)
    (case k_law_block => k_is)
    (case a_law_statement => k_is)
    (case l_law_statement => k_is)
    (case c_law_statement => k_is)
    (case k_law_statement => k_is)
    (case a_law_body => k_is)
    (case l_law_body => k_is)
    (case c_law_body => k_is)
    (case k_law_body => k_is)
    (case a_law_bodies => k_is)
    (case l_law_bodies => k_is)
    (case c_law_bodies => k_is)
    (case k_law_bodies => k_is)
    (case a_law_copied => k_is)
    (case l_law_copied => k_is)
    (case c_law_copied => k_is)
    (case k_law_copied => k_is)
    (case a_law_same => k_is)
    (case l_law_same => k_is)
    (case c_law_same => k_is)
    (case k_law_same => k_is)
    (case a_law_longer => k_is)
    (case l_law_longer => k_is)
    (case c_law_longer => k_is)
    (case k_law_longer => k_is)
    (case a_law_spoiled => k_is)
    (case l_law_spoiled => k_is)
    (case c_law_spoiled => k_is)
    (case k_law_spoiled => k_is)
    (case a_law_turned => k_is)
    (case l_law_turned => k_is)
    (case c_law_turned => k_is)
    (case k_law_turned => k_is)
    (case a_law_tells => k_is)
    (case l_law_tells => k_is)
    (case c_law_tells => k_is)
    (case k_law_tells => k_is)
    (case a_law_shared_right => k_is)
    (case l_law_shared_right => k_is)
    (case c_law_shared_right => k_is)
    (case k_law_shared_right => k_is)
    (case alaw => k_is)
    (case llaw => k_is)
    (case claw => k_is)
    (case klaw => k_is)
    (case y_int => k_is)
    (case y_len => k_is)
    (case y_list => k_is)
    (case y_tuple => k_is)
    (case y_range => k_is)
    (case y_isinstance => k_is)
    (case y_bool => k_is)
    (case y_str => k_is)
    (case y_dict => k_is)
    (case y_all => k_is)
    (case y_zip => k_is)
    (case y_enumerate => k_is)
    (case y_reversed => k_is)
