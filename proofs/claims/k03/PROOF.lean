import PyProof.Rows.All
import Wide.All
import OpenK.AllK
import Wide.FinOn
import HandS.ForMost
import HandS.Wide
import HandS.IsInst
import HandS.Codes
import HandS.Evl
import HandS.Walk
import HandS.Zip
import HandS.Star
import HandS.More
import HandS.Flow
import HandS.RevRange
import HandS.OwnEq
import HandS.NamedTupGet
import HandS.Small
import HandS.ExcOwn
import HandS.WordsExc
import HandS.TupAny
import HandS.TryMany
import HandS.Deep
import HandS.ExcIs
import HandS.Rev
import HandS.TupLe
import HandS.ExcInit
import HandS.ExcField
import PySem.Challenge.RW_sharedboard_k03_wrong_books
set_option Elab.async false
set_option linter.all false
set_option maxRecDepth 100000
set_option maxHeartbeats 4000000
namespace My
open PySem PySem.Spec PyProof.Rows L2 Evl
open C8 (Cal pe_c)
def topS (i : Nat) : Stmt := PySem.Challenge.pw_sharedboard_k03_wrong_books.main.body.getD i (.Pass ⟨0, 0, 0, 0⟩)
abbrev s_law_pool : Stmt := topS 36
theorem sc_law_pool : FnScope ["script", "seed", "cell"] ["script"] (defScope s_law_pool) := ⟨rfl, rfl, rfl, by decide +kernel, rfl, by decide +kernel, by decide +kernel⟩
abbrev s_law_draw : Stmt := topS 37
theorem sc_law_draw : FnScope ["pool", "many", "number", "cell", "digit"] ["pool", "many"] (defScope s_law_draw) := ⟨rfl, rfl, rfl, by decide +kernel, rfl, by decide +kernel, by decide +kernel⟩
/-! ### the pool of a law's draws -/
/-- all but the object at p is as it was -/
def Oth (p : Addr) (H H' : Hp) : Prop := ∀ a o, a ≠ p → H a = some o → H' a = some o
theorem Oth.refl (p : Addr) (H : Hp) : Oth p H H := fun _ _ _ h => h
theorem Oth.trans {p : Addr} {H H1 H2 : Hp} (a : Oth p H H1) (b : Oth p H1 H2) : Oth p H H2 := fun c o n h => b c o n (a c o n h)
theorem Oth.of {p : Addr} {H H1 : Hp} (a : Ex H H1) : Oth p H H1 := fun c o _ h => a c o h
theorem Oth.upd {p : Addr} {H : Hp} {o : HO} : Oth p H (upd H p o) := fun c u n h => by rw [upd_ne n]; exact h
structure PoolAt (H : Hp) (p q : Addr) (i b t s : Int) (cs : List Int) : Prop where
  hp : H p = some (.lst [.ref q, .int i, .int b, .int t, .int s])
  hq : H q = some (.lst (cs.map V.int))
  short : cs.length ≤ 63
  i0 : 0 ≤ i
  b0 : 0 ≤ b
def Pool (H : Hp) (p q : Addr) : Prop := ∃ i b t s cs, PoolAt H p q i b t s cs
theorem PoolAt.ne {H : Hp} {p q : Addr} {i b t s : Int} {cs : List Int} (x : PoolAt H p q i b t s cs) : q ≠ p := ne_of x.hq x.hp fun e => by
  have e1 := HO.lst.inj e
  cases cs with
  | nil => cases e1
  | cons c r => cases e1
theorem PoolAt.ex {H H' : Hp} {p q : Addr} {i b t s : Int} {cs : List Int} (x : PoolAt H p q i b t s cs) (e : Ex H H') : PoolAt H' p q i b t s cs :=
  ⟨e _ _ x.hp, e _ _ x.hq, x.short, x.i0, x.b0⟩
theorem Pool.ex {H H' : Hp} {p q : Addr} (x : Pool H p q) (e : Ex H H') : Pool H' p q := by
  obtain ⟨i, b, t, s, cs, x⟩ := x
  exact ⟨i, b, t, s, cs, x.ex e⟩
theorem Pool.ne {H : Hp} {p q : Addr} (x : Pool H p q) : q ≠ p := by
  obtain ⟨i, b, t, s, cs, x⟩ := x
  exact x.ne
/-- a list of ints is not the pool -/
theorem Pool.neI {H : Hp} {p q a : Addr} {ns : List Int} (x : Pool H p q) (h : H a = some (.lst (ns.map V.int))) : a ≠ p := by
  obtain ⟨i, b, t, s, cs, x⟩ := x
  refine ne_of h x.hp fun e => ?_
  have e1 := HO.lst.inj e
  cases ns with
  | nil => cases e1
  | cons c r => cases e1
/-- an object that is neither may change -/
theorem Pool.upd {H : Hp} {p q a : Addr} {o : HO} (x : Pool H p q) (h1 : a ≠ p) (h2 : a ≠ q) : Pool (upd H a o) p q := by
  obtain ⟨i, b, t, s, cs, x⟩ := x
  exact ⟨i, b, t, s, cs, by rw [upd_ne h1.symm]; exact x.hp, by rw [upd_ne h2.symm]; exact x.hq, x.short, x.i0, x.b0⟩
theorem Pool.isP {H : Hp} {p q : Addr} (x : Pool H p q) : ∃ o, H p = some o := by
  obtain ⟨i, b, t, s, cs, x⟩ := x
  exact ⟨_, x.hp⟩
theorem Pool.isQ {H : Hp} {p q : Addr} (x : Pool H p q) : ∃ o, H q = some o := by
  obtain ⟨i, b, t, s, cs, x⟩ := x
  exact ⟨_, x.hq⟩
theorem PoolAt.put {H H' : Hp} {p q : Addr} {i b t s i' b' t' s' : Int} {cs : List Int} (x : PoolAt H p q i b t s cs) (e : Ex H H') (hi : 0 ≤ i') (hb : 0 ≤ b') :
    PoolAt (upd H' p (.lst [.ref q, .int i', .int b', .int t', .int s'])) p q i' b' t' s' cs :=
  ⟨upd_same, by rw [upd_ne x.ne]; exact e _ _ x.hq, x.short, hi, hb⟩
def spPool (K : PySem.W.Frag) : Sp := fun vs H Q _ => ∃ (a : Addr) (ns : List Int), vs = [.ref a] ∧ SqL K H a (ns.map V.int) ∧ ∀ p q H', H p = none → H q = none → Ex H H' → Pool H' p q → Q (.ref p) H'
def spDraw : Sp := fun vs H Q _ => ∃ (p q : Addr) (m : Int), vs = [.ref p, .int m] ∧ 0 < m ∧ m.natAbs < 2 ^ 200 ∧ Pool H p q ∧ ∀ r H', 0 ≤ r → r < m → Oth p H H' → Pool H' p q → Q (.int r) H'
theorem cut63 (xs : List V) : cutV xs none (some 63) = xs.take 63 := by
  unfold cutV
  rw [HT.sIx_none, show HT.sIx xs.length xs.length (some 63) = min 63 xs.length from HT.sIx_nat xs.length xs.length 63]
  show (xs.drop 0).take (min 63 xs.length - 0) = _
  rw [List.drop_zero, Nat.sub_zero, List.take_eq_take_iff]
  omega
section
variable {P : Program} {w : World} {K : PySem.W.Frag} {mg : Str → Option Value} {base : Heap}
theorem ok_pool {f : Addr} {fd : FuncData} {k : Nat} (F : Fun K "_law_pool" "_law_pool" s_law_pool f fd) (z_int : mg "int" = none) (z_list : mg "list" = none) : FnOk P w K mg base CX0 (k + 1) f fd ["script"] (spPool K) := by
  have sc := sc_law_pool
  refine F.ok sc (fun vs H Q E h => ?_) (fun cdv A outer s H vs Q E hr h => ?_)
  · obtain ⟨a, ns, rfl, _⟩ := h
    rfl
  · obtain ⟨a, ns, rfl, hS, q⟩ := h
    refine ⟨_, (pss_cons (ps_set (i := 1) sc.nd rfl (by first | exact Or.inl rfl | exact Or.inr rfl) pe_int)
      (pss_cons (ps_for PassesOwn.never rfl (pi_list (pe_slice sl_list (pv 0) po_none (po_some pe_int))) (pg_name (i := 2) sc.nd rfl (by first | exact Or.inl rfl | exact Or.inr rfl))
      (pss_one (ps_set (i := 1) sc.nd rfl (by first | exact Or.inl rfl | exact Or.inr rfl) (pe_op op_modN (pe_callTy call_int1 (by rfl) z_int (by decide +kernel) (pa_cons (pe_op op_add (pe_op op_add (pe_op op_mul (pv 1) pe_int) (pv 2)) pe_int) pa_nil)) pe_int))))
      (pss_one (ps_ret (pe_lst (pa_cons (pe_callTy call_list_of (by rfl) z_list (by decide +kernel) (pa_cons (pe_slice sl_list (pv 0) po_none (po_some pe_int)) pa_nil)) (pa_cons pe_int (pa_cons pe_int (pa_cons pe_int (pa_cons (pv 1) pa_nil)))))))))), ?_⟩
    -- for cell in script[:63]
    refine ⟨.ref a, rfl, 63, rfl, a, ns.map V.int, rfl, hS, fun c nc => ?_⟩
    rw [cut63, ← List.map_take]
    refine ⟨c, rfl, ⟨_, .inl (.inl upd_same)⟩, for_list (xs := (ns.take 63).map V.int)
      (fun i σ H' => ∃ (n : Int) (y : Option V), σ = [some (.ref a), some (.int n), y] ∧ Ex H H' ∧ H' c = some (.lst ((ns.take 63).map V.int))) ⟨17, none, rfl, Ex.new nc, upd_same⟩ (fun i σ H' hi p => ?_) (fun i x σ H' hi p => ?_) (fun σ H' p => ?_)⟩
    · obtain ⟨n, y, rfl, e, hc⟩ := p
      exact .inl (.inl hc)
    · obtain ⟨n, y, rfl, e, hc⟩ := p
      rw [List.getElem?_map, Option.map_eq_some_iff] at hi
      obtain ⟨z, _, rfl⟩ := hi
      refine ⟨.int n, rfl, n, 43, rfl, rfl, .inr ⟨by decide, by decide⟩, .int z, rfl, n * 43, z, rfl, rfl, n * 43 + z, 3, rfl, rfl, .inl ⟨_, rfl, _, 2147483629, rfl, rfl, show (2147483629 : Int) ≠ 0 by decide, ?_⟩⟩
      exact ⟨_, some (.int z), rfl, e, hc⟩
    · obtain ⟨n, y, rfl, e, hc⟩ := p
      refine ⟨.ref a, rfl, 63, rfl, a, ns.map V.int, rfl, ex_l e hS, fun c2 nc2 => ?_⟩
      rw [cut63, ← List.map_take]
      refine ⟨c2, _, rfl, .inl (.inl (.inl upd_same)), fun l nl => ?_⟩
      refine ⟨.int n, rfl, Nat.le_of_ble_eq_true rfl, fun p np => ?_⟩
      have e2 := (e.trans (Ex.new nc2)).trans (Ex.new (o := .lst ((ns.take 63).map V.int)) nl)
      have e3 := e2.trans (Ex.new (o := .lst [.ref l, .int 0, .int 0, .int 0, .int n]) np)
      refine q p l _ (fresh_back e2 np) (fresh_back (e.trans (Ex.new nc2)) nl) e3 ⟨0, 0, 0, n, ns.take 63, upd_same, ?_, ?_, by decide, by decide⟩
      · rw [upd_ne (ne_of_none upd_same np)]
        exact upd_same
      · rw [List.length_take]; omega

theorem ev_ix0 {σ : L2.St} {H : Hp} {p : Addr} {xs : List V} {j : Nat} {v : V} (hs : σ[0]? = some (some (.ref p))) (h : H p = some (.lst xs)) (hx : xs[j]? = some v) : Ev (tOp (rIxL K) (tVar 0) (tC (.int (j : Int)))) σ H v :=
  ev_op (ev_var hs) ev_c (rv_ixL (sq_of h) (atI_nat hx))
theorem ev_int1 {σ : L2.St} {H : Hp} {te : TE} {n : Int} (h : Ev te σ H (.int n)) : Ev (tCB (fun xs H Q => (∃ i, xs = [.int i] ∧ Q (.int i) H) ∨ ∃ k, xs = [.bl k] ∧ Q (.int (if k then 1 else 0)) H) (tCons te tNil)) σ H (.int n) :=
  ev_cb (ea_cons h ea_nil) fun H1 _ _ q => .inl ⟨n, rfl, q H1 (Ex.refl H1)⟩
theorem fmod_in {a m : Int} (h : 0 < m) : 0 ≤ a.fmod m ∧ a.fmod m < m := by
  rw [Int.fmod_eq_emod_of_nonneg a (by omega)]
  exact ⟨Int.emod_nonneg a (by omega), Int.emod_lt_of_pos a h⟩
theorem ok_draw {f : Addr} {fd : FuncData} {k : Nat} (F : Fun K "_law_draw" "_law_draw" s_law_draw f fd) (z_int : mg "int" = none) (z_len : mg "len" = none) : FnOk P w K mg base CX0 (k + 1) f fd ["pool", "many"] spDraw := by
  have sc := sc_law_draw
  refine F.ok sc (fun vs H Q E h => ?_) (fun cdv A outer s H vs Q E hr h => ?_)
  · obtain ⟨p, q0, m, rfl, _⟩ := h
    rfl
  · obtain ⟨p, q0, m, rfl, hm, hb, ⟨i, b, t, s, cs, x⟩, q⟩ := h
    refine ⟨_, (pss_cons (ps_asg (pe_op op_add (pe_ix ix_list (pv 0) pe_int (fun _ _ => rfl)) pe_int) (pg_sub (pv 0) pe_int set_list))
      (Evl.pss_cut (ps_if (PW.pt (pw_and (pt_cmpR op_eq (pe_ix ix_list (pv 0) pe_int (fun _ _ => rfl)) pe_int (nomark _)) (pw_and1 (pt_cmpR op_lt (pe_ix ix_list (pv 0) pe_int (fun _ _ => rfl)) (pe_callB call_len_seq (by rfl) z_len (by decide +kernel) (pa_cons (pe_ix ix_list (pv 0) pe_int (fun _ _ => rfl)) pa_nil)) (nomark _)))))
      (pss_cons (ps_set (i := 3) sc.nd rfl (by first | exact Or.inl rfl | exact Or.inr rfl) (pe_ix ix_list (pe_ix ix_list (pv 0) pe_int (fun _ _ => rfl)) (pe_ix ix_list (pv 0) pe_int (fun _ _ => rfl)) (fun _ _ => rfl)))
      (pss_cons (ps_asg (pe_op op_add (pe_ix ix_list (pv 0) pe_int (fun _ _ => rfl)) pe_int) (pg_sub (pv 0) pe_int set_list))
      (pss_one (ps_if (pt_cmpR op_ge (pv 3) (pe_op op_pow pe_int pe_int) (nomark _))
      (pss_one (ps_asg (pv 3) (pg_sub (pv 0) pe_int set_list)))
      (pss_one (ps_asg (pe_op op_modN (pe_callTy call_int1 (by rfl) z_int (by decide +kernel) (pa_cons (pe_op op_add (pe_op op_add (pe_op op_mul (pe_ix ix_list (pv 0) pe_int (fun _ _ => rfl)) pe_int) (pv 3)) pe_int) pa_nil)) pe_int) (pg_sub (pv 0) pe_int set_list)))))))
      pss_nil)
      (pss_cons (ps_if (pt_cmpR op_gt (pe_ix ix_list (pv 0) pe_int (fun _ _ => rfl)) pe_int (nomark _))
      (pss_cons (ps_set (i := 4) sc.nd rfl (by first | exact Or.inl rfl | exact Or.inr rfl) (pe_op op_modN (pe_callTy call_int1 (by rfl) z_int (by decide +kernel) (pa_cons (pe_ix ix_list (pv 0) pe_int (fun _ _ => rfl)) pa_nil)) (pv 1)))
      (pss_cons (ps_asg (pe_op op_fdivW (pe_ix ix_list (pv 0) pe_int (fun _ _ => rfl)) (pv 1)) (pg_sub (pv 0) pe_int set_list))
      (pss_one (ps_ret (pv 4)))))
      pss_nil)
      (pss_cons (ps_set (i := 2) sc.nd rfl (by first | exact Or.inl rfl | exact Or.inr rfl) (pe_op op_modN (pe_callTy call_int1 (by rfl) z_int (by decide +kernel) (pa_cons (pe_op op_add (pe_op op_add (pe_op op_mul (pe_ix ix_list (pv 0) pe_int (fun _ _ => rfl)) pe_int) (pe_op op_mul (pe_ix ix_list (pv 0) pe_int (fun _ _ => rfl)) pe_int)) pe_int) pa_nil)) pe_int))
      (pss_cons (ps_set (i := 2) sc.nd rfl (by first | exact Or.inl rfl | exact Or.inr rfl) (pe_op op_modN (pe_callTy call_int1 (by rfl) z_int (by decide +kernel) (pa_cons (pe_op op_mul (pv 2) (pe_op op_add (pe_op op_fdivN (pv 2) pe_int) pe_int)) pa_nil)) pe_int))
      (pss_cons (ps_set (i := 2) sc.nd rfl (by first | exact Or.inl rfl | exact Or.inr rfl) (pe_op op_modN (pe_callTy call_int1 (by rfl) z_int (by decide +kernel) (pa_cons (pe_op op_mul (pv 2) (pe_op op_add (pe_op op_fdivN (pv 2) pe_int) pe_int)) pa_nil)) pe_int))
      (pss_one (ps_ret (pe_op op_modN (pe_callTy call_int1 (by rfl) z_int (by decide +kernel) (pa_cons (pe_op op_fdivN (pv 2) pe_int) pa_nil)) (pv 1)))))))))), ?_⟩
    have hm0 : m ≠ 0 := by omega
    -- pool[3] = pool[3] + 1
    refine q_setL (j := 3) x.hp (ev_op (ev_ix0 (j := 3) rfl x.hp rfl) ev_c rv_I0) (ev_var rfl) ev_c (by show _ < 5; decide) fun H1 e1 => ?_
    have x2 : PoolAt (upd H1 p (.lst [.ref q0, .int i, .int b, .int (t + 1), .int s])) p q0 i b (t + 1) s cs := x.put e1 x.i0 x.b0
    have o2 : Oth p H (upd H1 p (.lst [.ref q0, .int i, .int b, .int (t + 1), .int s])) := (Oth.of e1).trans Oth.upd
    -- if pool[2] == 0 and ..
    refine ⟨fun σ' H' => ∃ (c : Option V) (i' b' t' s' : Int), σ' = [some (.ref p), some (.int m), none, c, none] ∧ Oth p H H' ∧ PoolAt H' p q0 i' b' t' s' cs, ?_, ?_⟩
    · refine s_when (et_and (et_test (ev_op (ev_ix0 (j := 2) rfl x2.hp rfl) ev_c (rv_eq rfl))) fun hb => et_test (ev_op (ev_ix0 (j := 1) rfl x2.hp rfl) (ev_len (ev_ix0 (j := 0) rfl x2.hp rfl) (sq_of x2.hq)) rv_I0)) (fun hb H3 e3 => ?_) (fun hb H3 e3 => ⟨none, i, b, t + 1, s, rfl, o2.trans (.of e3), x2.ex e3⟩)
      have x3 := x2.ex e3
      have o3 : Oth p H H3 := o2.trans (.of e3)
      have hi : i < ((cs.map V.int).length : Int) := of_decide_eq_true (Bool.and_eq_true _ _ ▸ hb).2
      rw [List.length_map] at hi
      have hi2 : i.toNat < cs.length := by have := x.i0; omega
      refine q_asg (v := .int cs[i.toNat]) (ev_op (ev_ix0 (j := 0) rfl x3.hp rfl) (ev_ix0 (j := 1) rfl x3.hp rfl) (rv_ixL (sq_of x3.hq) (at_of (j := i.toNat) (by have := x.i0; omega) (by rw [List.getElem?_map, List.getElem?_eq_getElem hi2]; rfl)))) fun H4 e4 => ?_
      have x4 := x3.ex e4
      refine q_setL (j := 1) x4.hp (ev_op (ev_ix0 (j := 1) rfl x4.hp rfl) ev_c rv_I0) (ev_var rfl) ev_c (by show _ < 5; decide) fun H5 e5 => ?_
      have x5 : PoolAt (upd H5 p (.lst [.ref q0, .int (i + 1), .int b, .int (t + 1), .int s])) p q0 (i + 1) b (t + 1) s cs := x4.put e5 (by have := x.i0; omega) x.b0
      have o5 : Oth p H (upd H5 p (.lst [.ref q0, .int (i + 1), .int b, .int (t + 1), .int s])) := ((o3.trans (.of e4)).trans (.of e5)).trans Oth.upd
      refine s_if (et_test (ev_op (ev_var rfl) (ev_op ev_c ev_c (rv_I ⟨by decide, by decide, by decide⟩)) rv_I0)) (fun hc H6 e6 => ?_) (fun hc H6 e6 => ?_)
      · have x6 := x5.ex e6
        have hz : (0 : Int) ≤ cs[i.toNat] := Int.le_trans (by decide) (of_decide_eq_true hc)
        refine s_setL (j := 2) x6.hp (ev_var rfl) (ev_var rfl) ev_c (by show _ < 5; decide) fun H7 e7 => ?_
        exact ⟨_, i + 1, cs[i.toNat], t + 1, s, rfl, ((o5.trans (.of e6)).trans (.of e7)).trans Oth.upd, x6.put e7 x6.i0 hz⟩
      · have x6 := x5.ex e6
        refine s_setL (j := 4) x6.hp (ev_op (ev_int1 (ev_op (ev_op (ev_op (ev_ix0 (j := 4) rfl x6.hp rfl) ev_c (rv_I (.inr ⟨by decide, by decide⟩))) (ev_var rfl) rv_I0) ev_c rv_I0)) ev_c (rv_I (by decide +revert))) (ev_var rfl) ev_c (by show _ < 5; decide) fun H7 e7 => ?_
        exact ⟨_, i + 1, b, t + 1, _, rfl, ((o5.trans (.of e6)).trans (.of e7)).trans Oth.upd, x6.put e7 x6.i0 x6.b0⟩
    · rintro σ' H' ⟨c, i, b, t, s, rfl, o, x⟩
      refine q_when (et_test (ev_op (ev_ix0 (j := 2) rfl x.hp rfl) ev_c rv_I0)) (fun hc H2 e2 => ?_) (fun hc H2 e2 => ?_)
      · have x2 := x.ex e2
        refine q_asg (ev_op (ev_int1 (ev_ix0 (j := 2) rfl x2.hp rfl)) (ev_var rfl) (rv_I hm0)) fun H3 e3 => ?_
        have x3 := x2.ex e3
        refine q_setL (j := 2) x3.hp (ev_op (ev_ix0 (j := 2) rfl x3.hp rfl) (ev_var rfl) (rv_I (wide_div hm hb (by decide) (by decide)))) (ev_var rfl) ev_c (by show _ < 5; decide) fun H4 e4 => ?_
        refine s_ret (ev_var rfl) fun H5 e5 => ?_
        have x4 : PoolAt (upd H4 p (.lst [.ref q0, .int i, .int (b / m), .int t, .int s])) p q0 i (b / m) t s cs := x3.put e4 x3.i0 (Int.ediv_nonneg x3.b0 (by omega))
        exact q _ _ (fmod_in hm).1 (fmod_in hm).2 ((((o.trans (.of e2)).trans (.of e3)).trans (.of e4)).trans (Oth.upd.trans (.of e5))) ⟨_, _, _, _, _, x4.ex e5⟩
      · have x2 := x.ex e2
        refine q_asg (ev_op (ev_int1 (ev_op (ev_op (ev_op (ev_ix0 (j := 4) rfl x2.hp rfl) ev_c (rv_I (.inr ⟨by decide, by decide⟩))) (ev_op (ev_ix0 (j := 3) rfl x2.hp rfl) ev_c (rv_I (.inr ⟨by decide, by decide⟩))) rv_I0) ev_c rv_I0)) ev_c (rv_I (by decide +revert))) fun H3 e3 => ?_
        have n1 := @fmod_in (s * 69621 + t * 130363 + 12289) 2147483647 (by decide)
        generalize (s * 69621 + t * 130363 + 12289).fmod 2147483647 = n at n1 ⊢
        refine q_asg (ev_op (ev_int1 (ev_op (ev_var rfl) (ev_op (ev_op (ev_var rfl) ev_c (rv_I ⟨by decide, by decide⟩)) ev_c rv_I0) (rv_I (.inl ⟨by omega, by omega⟩)))) ev_c (rv_I (by decide +revert))) fun H4 e4 => ?_
        have n2 := @fmod_in (n * (n.fdiv 1013 + 48271)) 2147483647 (by decide)
        generalize (n * (n.fdiv 1013 + 48271)).fmod 2147483647 = n' at n2 ⊢
        refine q_asg (ev_op (ev_int1 (ev_op (ev_var rfl) (ev_op (ev_op (ev_var rfl) ev_c (rv_I ⟨by decide, by decide⟩)) ev_c rv_I0) (rv_I (.inl ⟨by omega, by omega⟩)))) ev_c (rv_I (by decide +revert))) fun H5 e5 => ?_
        refine s_ret (ev_op (ev_int1 (ev_op (ev_var rfl) ev_c (rv_I ⟨by decide, by decide⟩))) (ev_var rfl) (rv_I hm0)) fun H6 e6 => ?_
        have e := (((e2.trans e3).trans e4).trans e5).trans e6
        exact q _ _ (fmod_in hm).1 (fmod_in hm).2 (o.trans (.of e)) ⟨_, _, _, _, _, x.ex e⟩
end
/-! ### data: what may stand in lists and tuples -/
mutual
/-- equal, kind for kind (actual, due) -/
def sm : PyData → PyData → Bool
  | .none, .none => true
  | .bool a, .bool b => decide (a = b)
  | .int a, .int b => decide (a = b)
  | .str a, .str b => decide (a = b)
  | .list xs, .list ys => smAll xs ys
  | .tuple xs, .tuple ys => smAll xs ys
  | _, _ => false
def smAll : List PyData → List PyData → Bool
  | [], [] => true
  | x :: xs, y :: ys => sm x y && smAll xs ys
  | _, _ => false
end
mutual
/-- at most n levels, no list longer than 10000, no dict -/
def fit : PyData → Nat → Bool
  | .list xs, n => match n with
    | 0 => false
    | m + 1 => decide (xs.length ≤ 10000) && fitAll xs m
  | .tuple xs, n => match n with
    | 0 => false
    | m + 1 => decide (xs.length ≤ 10000) && fitAll xs m
  | .dict _, _ => false
  | _, _ => true
def fitAll : List PyData → Nat → Bool
  | [], _ => true
  | x :: xs, n => fit x n && fitAll xs n
end
mutual
theorem sm_refl : ∀ (d : PyData) (n : Nat), fit d n = true → sm d d = true
  | .none, _, _ => by simp [sm]
  | .bool _, _, _ => by simp [sm]
  | .int _, _, _ => by simp [sm]
  | .str _, _, _ => by simp [sm]
  | .list xs, 0, h => by simp [fit] at h
  | .list xs, n + 1, h => by
    rw [fit, Bool.and_eq_true] at h
    rw [sm]
    exact smAll_refl xs n h.2
  | .tuple xs, 0, h => by simp [fit] at h
  | .tuple xs, n + 1, h => by
    rw [fit, Bool.and_eq_true] at h
    rw [sm]
    exact smAll_refl xs n h.2
  | .dict _, _, h => by simp [fit] at h
theorem smAll_refl : ∀ (xs : List PyData) (n : Nat), fitAll xs n = true → smAll xs xs = true
  | [], _, _ => by simp [smAll]
  | x :: xs, n, h => by
    rw [fitAll, Bool.and_eq_true] at h
    rw [smAll, sm_refl x n h.1, smAll_refl xs n h.2]
    rfl
end
mutual
theorem sm_eq : ∀ (d e : PyData), sm d e = true → d = e
  | .none, e, h => by cases e <;> simp_all [sm]
  | .bool _, e, h => by cases e <;> simp_all [sm]
  | .int _, e, h => by cases e <;> simp_all [sm]
  | .str _, e, h => by cases e <;> simp_all [sm]
  | .list xs, e, h => by
    cases e with
    | list ys => rw [sm] at h; rw [smAll_eq xs ys h]
    | _ => simp [sm] at h
  | .tuple xs, e, h => by
    cases e with
    | tuple ys => rw [sm] at h; rw [smAll_eq xs ys h]
    | _ => simp [sm] at h
  | .dict _, e, h => by cases e <;> simp [sm] at h
theorem smAll_eq : ∀ (xs ys : List PyData), smAll xs ys = true → xs = ys
  | [], ys, h => by cases ys <;> simp_all [smAll]
  | x :: xs, ys, h => by
    cases ys with
    | nil => simp [smAll] at h
    | cons y ys =>
      rw [smAll, Bool.and_eq_true] at h
      rw [sm_eq x y h.1, smAll_eq xs ys h.2]
end
theorem smAll_len : ∀ {xs ys : List PyData}, smAll xs ys = true → xs.length = ys.length := fun h => by rw [smAll_eq _ _ h]
theorem fitAll_mem : ∀ {xs : List PyData} {n : Nat} {x : PyData}, fitAll xs n = true → x ∈ xs → fit x n = true
  | y :: r, n, x, h, m => by
    rw [fitAll, Bool.and_eq_true] at h
    rcases List.mem_cons.mp m with rfl | m
    · exact h.1
    · exact fitAll_mem h.2 m
/-- by places -/
theorem smAll_at : ∀ {xs ys : List PyData}, xs.length = ys.length → (smAll xs ys = true ↔ ∀ i, i < ys.length → sm (xs.getD i .none) (ys.getD i .none) = true)
  | [], [], _ => by simp [smAll]
  | x :: xs, y :: ys, h => by
    have ih := smAll_at (xs := xs) (ys := ys) (by simpa using h)
    rw [smAll, Bool.and_eq_true, ih]
    constructor
    · rintro ⟨h1, h2⟩ i hi
      cases i with
      | zero => exact h1
      | succ i => exact h2 i (by simpa using hi)
    · intro h
      exact ⟨h 0 (by simp), fun i hi => h (i + 1) (by simpa using hi)⟩
theorem given_zero {n : Nat} {f : Nat → Bool} {v : Nat → V} : (given n f v).length = 0 ↔ ∀ i, i < n → f i = false := by
  unfold given
  rw [List.length_map, List.length_eq_zero_iff, List.filter_eq_nil_iff]
  constructor
  · intro h i hi
    have := h i (List.mem_range.mpr hi)
    simpa using this
  · intro h i hi
    rw [h i (List.mem_range.mp hi)]
    decide
theorem smAll_given {xs ys : List PyData} (h : xs.length = ys.length) (v : Nat → V) : decide (((given ys.length (fun i => !sm (xs.getD i .none) (ys.getD i .none)) v).length : Int) = 0) = smAll xs ys := by
  have h1 := given_zero (n := ys.length) (f := fun i => !sm (xs.getD i .none) (ys.getD i .none)) (v := v)
  have h2 := smAll_at h
  cases e : smAll xs ys with
  | true =>
    rw [decide_eq_true_eq]
    have := h1.mpr fun i hi => by
      show (!sm (xs.getD i .none) (ys.getD i .none)) = false
      rw [h2.mp e i hi]; rfl
    omega
  | false =>
    rw [decide_eq_false_iff_not]
    intro z
    have hz : (given ys.length (fun i => !sm (xs.getD i .none) (ys.getD i .none)) v).length = 0 := by omega
    have := h2.mpr fun i hi => by
      have := h1.mp hz i hi
      simpa using this
    rw [e] at this
    cases this
section
variable {K : PySem.W.Frag} {H H' : Hp}
mutual
theorem dp_ex (e : Ex H H') : ∀ (d : PyData) (v : V), Dp K H v d → Dp K H' v d
  | .none, _, h => by cases h; exact .non
  | .bool _, _, h => by cases h; exact .bl _
  | .int _, _, h => by cases h; exact .int _
  | .str _, _, h => by cases h; exact .str _
  | .list ds, _, h => by
    cases h with
    | lst s a => exact .lst (ex_l e s) (dpa_ex e ds _ a)
  | .tuple ds, _, h => by
    cases h with
    | tup s a => exact .tup (ex_t e s) (dpa_ex e ds _ a)
  | .dict _, _, h => by cases h
theorem dpa_ex (e : Ex H H') : ∀ (ds : List PyData) (vs : List V), DpAll K H vs ds → DpAll K H' vs ds
  | [], _, h => by cases h; exact .nil
  | d :: ds, _, h => by
    cases h with
    | cons a b => exact .cons (dp_ex e d _ a) (dpa_ex e ds _ b)
end
theorem dpa_len : ∀ {vs : List V} {ds : List PyData}, DpAll K H vs ds → vs.length = ds.length
  | _, _, .nil => rfl
  | _, _, .cons _ b => by rw [List.length_cons, List.length_cons, dpa_len b]
theorem dpa_at : ∀ {vs : List V} {ds : List PyData} {i : Nat}, DpAll K H vs ds → i < ds.length → ∃ v, vs[i]? = some v ∧ Dp K H v (ds.getD i .none)
  | _, _, i, .nil, h => by simp at h
  | _, _, 0, .cons a _, _ => ⟨_, rfl, a⟩
  | _, _, i + 1, .cons _ b, h => by
    obtain ⟨v, h1, h2⟩ := dpa_at (i := i) b (by simpa using h)
    exact ⟨v, h1, h2⟩
theorem dpa_ints : ∀ ns : List Int, DpAll K H (ns.map V.int) (ns.map PyData.int)
  | [] => .nil
  | n :: r => .cons (.int n) (dpa_ints r)
theorem fit_ints : ∀ (ns : List Int) (n : Nat), fitAll (ns.map PyData.int) n = true
  | [], n => by simp [fitAll]
  | z :: r, n => by
    rw [List.map_cons, fitAll, fit_ints r n]
    simp [fit]
def tyn : PyData → String
  | .none => "NoneType"
  | .bool _ => "bool"
  | .int _ => "int"
  | .str _ => "str"
  | .list _ => "list"
  | .tuple _ => "tuple"
  | .dict _ => "dict"
theorem dp_ty {v : V} {d : PyData} (h : Dp K H v d) : TyX K H v (.type (tyn d)) := by
  cases h with
  | non => exact .base .non
  | bl b => exact .base (.bl b)
  | int i => exact .base (.int i)
  | str x => exact .base (.str x)
  | lst s _ =>
    rcases s with (s | ⟨o, s⟩) | ⟨o, its, n, l, c, _⟩
    · exact .base (.lst s)
    · exact .base (.frz s)
    · exact .kList l c
  | tup s _ =>
    rcases s with (s | ⟨o, s⟩) | ⟨o, its, n, l, c, _⟩
    · exact .base (.tup s)
    · exact .fTuple s
    · exact .kTuple l c
/-- isinstance(d, c), c one of bool, int, str, list, tuple -/
def isaS (t c : String) : Bool := (kitB t c).getD false
def isa (d : PyData) (c : String) : Bool := isaS (tyn d) c
theorem kit_all : ∀ t ∈ ["NoneType", "bool", "int", "str", "list", "tuple", "dict"], kitB t "bool" = some (isaS t "bool") ∧ kitB t "int" = some (isaS t "int") ∧ kitB t "str" = some (isaS t "str") ∧ kitB t "list" = some (isaS t "list") ∧ kitB t "tuple" = some (isaS t "tuple") := by
  decide +kernel
theorem tyn_mem (d : PyData) : tyn d ∈ ["NoneType", "bool", "int", "str", "list", "tuple", "dict"] := by
  cases d <;> simp [tyn]
theorem kitB_isa (d : PyData) : kitB (tyn d) "bool" = some (isa d "bool") ∧ kitB (tyn d) "int" = some (isa d "int") ∧ kitB (tyn d) "str" = some (isa d "str") ∧ kitB (tyn d) "list" = some (isa d "list") ∧ kitB (tyn d) "tuple" = some (isa d "tuple") :=
  kit_all _ (tyn_mem d)
theorem isa_bool : ∀ d : PyData, isa d "bool" = (match d with | .bool _ => true | _ => false)
  | .none => (by decide +kernel : isaS "NoneType" "bool" = false)
  | .bool _ => (by decide +kernel : isaS "bool" "bool" = true)
  | .int _ => (by decide +kernel : isaS "int" "bool" = false)
  | .str _ => (by decide +kernel : isaS "str" "bool" = false)
  | .list _ => (by decide +kernel : isaS "list" "bool" = false)
  | .tuple _ => (by decide +kernel : isaS "tuple" "bool" = false)
  | .dict _ => (by decide +kernel : isaS "dict" "bool" = false)
theorem isa_int : ∀ d : PyData, isa d "int" = (match d with | .int _ => true | .bool _ => true | _ => false)
  | .none => (by decide +kernel : isaS "NoneType" "int" = false)
  | .bool _ => (by decide +kernel : isaS "bool" "int" = true)
  | .int _ => (by decide +kernel : isaS "int" "int" = true)
  | .str _ => (by decide +kernel : isaS "str" "int" = false)
  | .list _ => (by decide +kernel : isaS "list" "int" = false)
  | .tuple _ => (by decide +kernel : isaS "tuple" "int" = false)
  | .dict _ => (by decide +kernel : isaS "dict" "int" = false)
theorem isa_str : ∀ d : PyData, isa d "str" = (match d with | .str _ => true | _ => false)
  | .none => (by decide +kernel : isaS "NoneType" "str" = false)
  | .bool _ => (by decide +kernel : isaS "bool" "str" = false)
  | .int _ => (by decide +kernel : isaS "int" "str" = false)
  | .str _ => (by decide +kernel : isaS "str" "str" = true)
  | .list _ => (by decide +kernel : isaS "list" "str" = false)
  | .tuple _ => (by decide +kernel : isaS "tuple" "str" = false)
  | .dict _ => (by decide +kernel : isaS "dict" "str" = false)
theorem isa_list : ∀ d : PyData, isa d "list" = (match d with | .list _ => true | _ => false)
  | .none => (by decide +kernel : isaS "NoneType" "list" = false)
  | .bool _ => (by decide +kernel : isaS "bool" "list" = false)
  | .int _ => (by decide +kernel : isaS "int" "list" = false)
  | .str _ => (by decide +kernel : isaS "str" "list" = false)
  | .list _ => (by decide +kernel : isaS "list" "list" = true)
  | .tuple _ => (by decide +kernel : isaS "tuple" "list" = false)
  | .dict _ => (by decide +kernel : isaS "dict" "list" = false)
theorem isa_tuple : ∀ d : PyData, isa d "tuple" = (match d with | .tuple _ => true | _ => false)
  | .none => (by decide +kernel : isaS "NoneType" "tuple" = false)
  | .bool _ => (by decide +kernel : isaS "bool" "tuple" = false)
  | .int _ => (by decide +kernel : isaS "int" "tuple" = false)
  | .str _ => (by decide +kernel : isaS "str" "tuple" = false)
  | .list _ => (by decide +kernel : isaS "list" "tuple" = false)
  | .tuple _ => (by decide +kernel : isaS "tuple" "tuple" = true)
  | .dict _ => (by decide +kernel : isaS "dict" "tuple" = false)
theorem ev_isi {σ : L2.St} {te : TE} {x : V} {d : PyData} {c : String} {b : Bool} (hd : Dp K H x d) (h : Ev te σ H x) (hk : kitB (tyn d) c = some b) : Ev (tCB (rIsi K) (tCons te (tCons (tC (.ty c)) tNil))) σ H (.bl b) :=
  ev_cb (ea_cons h (ea_cons ev_c ea_nil)) fun H1 e Q q => ⟨x, .ty c, _, _, b, rfl, .ty c, dp_ty (dp_ex e d x hd), kit_ty hk, q H1 (Ex.refl H1)⟩
/-- isinstance(x, (list, tuple)) -/
theorem ev_isiLT {σ : L2.St} {te : TE} {x : V} {d : PyData} (hd : Dp K H x d) (h : Ev te σ H x) : Ev (tCB (rIsiT K) (tCons te (tCons (tTup (tCons (tC (.ty "list")) (tCons (tC (.ty "tuple")) tNil))) tNil))) σ H (.bl (isa d "list" || isa d "tuple")) := fun H1 e Q q =>
  h H1 e _ fun H2 e2 => ⟨by decide, fun p hp => ⟨x, p, _, _, _, _, rfl, upd_same, .cons (.ty _) (.cons (.ty _) .nil), dp_ty (dp_ex ((e.trans e2).trans (Ex.new hp)) d x hd),
    kitAny_cons (kit_ty (kitB_isa d).2.2.2.1) (fun hb => kitAny_cons (r := isa d "list" || isa d "tuple") (kit_ty (kitB_isa d).2.2.2.2) (fun hc => by rw [hb, hc]; exact kitAny_nil) (fun hc => by rw [hc, Bool.or_true])) (fun hb => by rw [hb, Bool.true_or]),
    q _ (e2.trans (Ex.new hp))⟩⟩
theorem ev_isN {σ : L2.St} {te : TE} {x : V} (h : Ev te σ H x) : Ev (tOp (fun x y H Q => y = .non ∧ Q (.bl (decide (x = .non))) H) te (tC .non)) σ H (.bl (decide (x = .non))) :=
  ev_op h ev_c (rv_val fun _ _ _ q => ⟨rfl, q⟩)
/-- a list or a tuple -/
def Sq (K : PySem.W.Frag) (H : Hp) (a : Addr) (xs : List V) : Prop := SqL K H a xs ∨ SqT K H a xs
theorem sq_ex {a : Addr} {xs : List V} (e : Ex H H') (h : Sq K H a xs) : Sq K H' a xs := h.imp (ex_l e) (ex_t e)
theorem ev_lenS {σ : L2.St} {ta : TE} {p : Addr} {xs : List V} (ha : Ev ta σ H (.ref p)) (h : Sq K H p xs) : Ev (tCB (rLenS K) (tCons ta tNil)) σ H (.int (xs.length : Int)) := fun H1 e Q q =>
  ha H1 e _ fun H2 e2 => ⟨p, xs, rfl, sq_ex (e.trans e2) h, q H2 e2⟩
theorem rv_ixS {p : Addr} {xs : List V} {i : Int} {v : V} (h : Sq K H p xs) (ha : atI xs i = some v) : RV (rIx K) (.ref p) (.int i) H v := fun H1 e _ q => by
  rcases h with h | h
  · exact .inl ⟨p, xs, i, v, rfl, rfl, ex_l e h, ha, q H1 (Ex.refl H1)⟩
  · exact .inr (.inl ⟨p, xs, i, v, rfl, rfl, ex_t e h, ha, q H1 (Ex.refl H1)⟩)
end
abbrev s_law_same : Stmt := topS 46
theorem sc_law_same : FnScope ["actual", "due", "k"] ["actual", "due"] (defScope s_law_same) := ⟨rfl, rfl, rfl, by decide +kernel, rfl, by decide +kernel, by decide +kernel⟩
section
variable {P : Program} {w : World} {K : PySem.W.Frag} {mg : Str → Option Value} {base : Heap}
def spSame (K : PySem.W.Frag) (n : Nat) : Sp := fun vs H Q _ => ∃ (x y : V) (d e : PyData) (m : Nat), vs = [x, y] ∧ n = m + 1 ∧ Dp K H x d ∧ Dp K H y e ∧ fit d m = true ∧ fit e m = true ∧ ∀ H', Ex H H' → Q (.bl (sm d e)) H'
theorem scal_bool {H : Hp} {x y : V} {d e : PyData} (hx : Dp K H x d) (hy : Dp K H y e) (h1 : isa e "bool" = true) (h2 : isa d "bool" = true) : scal x y = true := by
  rw [isa_bool] at h1 h2
  cases hx <;> simp at h2
  cases hy <;> simp at h1
  rfl
theorem scal_int {H : Hp} {x y : V} {d e : PyData} (hx : Dp K H x d) (hy : Dp K H y e) (c1 : isa e "bool" = false) (c2 : isa d "bool" = false) (h1 : isa e "int" = true) (h2 : isa d "int" = true) : scal x y = true := by
  rw [isa_bool] at c1 c2
  rw [isa_int] at h1 h2
  cases hx <;> simp at h2 c2
  cases hy <;> simp at h1 c1
  rfl
theorem scal_str {H : Hp} {x y : V} {d e : PyData} (hx : Dp K H x d) (hy : Dp K H y e) (h1 : isa e "str" = true) (h2 : isa d "str" = true) : scal x y = true := by
  rw [isa_str] at h1 h2
  cases hx <;> simp at h2
  cases hy <;> simp at h1
  rfl
theorem ans_non {H : Hp} {x y : V} {d e : PyData} (hx : Dp K H x d) (hy : Dp K H y e) (h : y = .non) : decide (x = V.non) = sm d e := by
  subst h
  cases hy
  cases hx <;> simp [sm]
theorem ans_bool {H : Hp} {x y : V} {d e : PyData} (hx : Dp K H x d) (hy : Dp K H y e) (hn : decide (y = V.non) = false) (h : (isa e "bool" || isa d "bool") = true) : (isa e "bool" && (isa d "bool" && decide (x = y))) = sm d e := by
  rw [isa_bool, isa_bool] at h ⊢
  cases hy <;> simp at hn <;> cases hx <;> simp [sm] at h ⊢
theorem ans_int {H : Hp} {x y : V} {d e : PyData} (hx : Dp K H x d) (hy : Dp K H y e) (c1 : isa e "bool" = false) (c2 : isa d "bool" = false) (h : isa e "int" = true) : (isa d "int" && decide (x = y)) = sm d e := by
  rw [isa_bool] at c1 c2
  rw [isa_int] at h ⊢
  cases hy <;> simp at h c1 <;> cases hx <;> simp [sm] at c2 ⊢
theorem ans_str {H : Hp} {x y : V} {d e : PyData} (hx : Dp K H x d) (hy : Dp K H y e) (h : isa e "str" = true) : (isa d "str" && decide (x = y)) = sm d e := by
  rw [isa_str] at h ⊢
  cases hy <;> simp at h <;> cases hx <;> simp [sm]
theorem ans_kind {H : Hp} {x y : V} {d e : PyData} (hx : Dp K H x d) (hy : Dp K H y e) (hn : decide (y = V.non) = false) (c1 : isa e "bool" = false) (hi : isa e "int" = false) (hs : isa e "str" = false)
    (h : ((!decide (V.bl (isa e "list") = V.bl (isa d "list"))) || !(isa d "list" || isa d "tuple")) = true) : false = sm d e := by
  rw [isa_list, isa_list, isa_tuple] at h
  rw [isa_int] at hi
  rw [isa_str] at hs
  rw [isa_bool] at c1
  cases hy <;> simp at hn hi hs c1 <;> cases hx <;> simp [sm] at h ⊢
theorem fit_list {xs : List PyData} {n : Nat} (h : fit (.list xs) n = true) : ∃ m, n = m + 1 ∧ xs.length ≤ 10000 ∧ fitAll xs m = true := by
  cases n with
  | zero => simp [fit] at h
  | succ m =>
    rw [fit, Bool.and_eq_true] at h
    exact ⟨m, rfl, of_decide_eq_true h.1, h.2⟩
theorem fit_tuple {xs : List PyData} {n : Nat} (h : fit (.tuple xs) n = true) : ∃ m, n = m + 1 ∧ xs.length ≤ 10000 ∧ fitAll xs m = true := by
  cases n with
  | zero => simp [fit] at h
  | succ m =>
    rw [fit, Bool.and_eq_true] at h
    exact ⟨m, rfl, of_decide_eq_true h.1, h.2⟩
theorem fit_two {xs ys : List PyData} {n : Nat} (h1 : ∃ m, n = m + 1 ∧ xs.length ≤ 10000 ∧ fitAll xs m = true) (h2 : ∃ m, n = m + 1 ∧ ys.length ≤ 10000 ∧ fitAll ys m = true) :
    ∃ m, n = m + 1 ∧ xs.length ≤ 10000 ∧ ys.length ≤ 10000 ∧ fitAll xs m = true ∧ fitAll ys m = true := by
  obtain ⟨m, rfl, a, b⟩ := h1
  obtain ⟨m', e, c, d⟩ := h2
  have : m' = m := by omega
  subst this
  exact ⟨_, rfl, a, c, b, d⟩
/-- both sides hold items -/
theorem both_items {H : Hp} {x y : V} {d e : PyData} (hx : Dp K H x d) (hy : Dp K H y e) (h1 : isa d "list" = isa e "list") (h2 : (isa d "list" || isa d "tuple") = true) (hn : decide (y = .non) = false) (h4 : isa e "int" = false) (h5 : isa e "str" = false) :
    ∃ a xs ds b ys es, x = .ref a ∧ y = .ref b ∧ Sq K H a xs ∧ Sq K H b ys ∧ DpAll K H xs ds ∧ DpAll K H ys es ∧ sm d e = smAll ds es ∧ ∀ n, fit d n = true → fit e n = true → ∃ m, n = m + 1 ∧ ds.length ≤ 10000 ∧ es.length ≤ 10000 ∧ fitAll ds m = true ∧ fitAll es m = true := by
  rw [isa_list, isa_list] at h1
  rw [isa_list, isa_tuple] at h2
  rw [isa_int] at h4
  rw [isa_str] at h5
  cases hx with
  | lst s a =>
    cases hy with
    | lst s2 a2 => exact ⟨_, _, _, _, _, _, rfl, rfl, .inl s, .inl s2, a, a2, by rw [sm], fun n f g => fit_two (fit_list f) (fit_list g)⟩
    | non => cases hn
    | _ => cases h1
  | tup s a =>
    cases hy with
    | tup s2 a2 => exact ⟨_, _, _, _, _, _, rfl, rfl, .inr s, .inr s2, a, a2, by rw [sm], fun n f g => fit_two (fit_tuple f) (fit_tuple g)⟩
    | lst _ _ => cases h1
    | non => cases hn
    | bl => cases h4
    | int => cases h4
    | str => cases h5
  | _ => cases h2
theorem same_step {f : Addr} {fd : FuncData} {n : Nat} (F : Fun K "_law_same" "_law_same" s_law_same f fd) (z_len : mg "len" = none) (z_isinstance : mg "isinstance" = none) (z_bool : mg "bool" = none) (z_int : mg "int" = none) (z_str : mg "str" = none)
    (z_list : mg "list" = none) (z_tuple : mg "tuple" = none) (z_range : mg "range" = none) (C_law_same : Cal P w K mg base n "_law_same" (spSame K n) []) : FnOk P w K mg base CX0 (n + 1) f fd ["actual", "due"] (spSame K (n + 1)) := by
  have sc := sc_law_same
  refine F.ok sc (fun vs H Q E h => ?_) (fun cdv A outer s H vs Q E hr h => ?_)
  · obtain ⟨x, y, d, e, m, rfl, _⟩ := h
    rfl
  · obtain ⟨x, y, d, e, n', rfl, en, hx, hy, fx, fy, q⟩ := h
    obtain rfl : n' = n := by omega
    refine ⟨_, (pss_cons (ps_if (pt_cmpR op_isN (pv 1) pe_non (nomark _))
      (pss_one (ps_ret (pe_cmpR op_isN (pv 0) pe_non (nomark _))))
      pss_nil)
      (pss_cons (ps_if (PW.pt (pw_or (pt_val (pe_callB call_isi (by rfl) z_isinstance (by decide +kernel) (pa_cons (pv 1) (pa_cons (pe_bltn (v := .ty "bool") (by rfl) z_bool (by decide +kernel) rfl) pa_nil)))) (pw_or1 (pt_val (pe_callB call_isi (by rfl) z_isinstance (by decide +kernel) (pa_cons (pv 0) (pa_cons (pe_bltn (v := .ty "bool") (by rfl) z_bool (by decide +kernel) rfl) pa_nil)))))))
      (pss_one (ps_ret (pe_and (pe_callB call_isi (by rfl) z_isinstance (by decide +kernel) (pa_cons (pv 1) (pa_cons (pe_bltn (v := .ty "bool") (by rfl) z_bool (by decide +kernel) rfl) pa_nil))) (pe_and (pe_callB call_isi (by rfl) z_isinstance (by decide +kernel) (pa_cons (pv 0) (pa_cons (pe_bltn (v := .ty "bool") (by rfl) z_bool (by decide +kernel) rfl) pa_nil))) (pe_one (pe_cmpR op_eq (pv 0) (pv 1) (nomark _)))))))
      pss_nil)
      (pss_cons (ps_if (pt_val (pe_callB call_isi (by rfl) z_isinstance (by decide +kernel) (pa_cons (pv 1) (pa_cons (pe_bltn (v := .ty "int") (by rfl) z_int (by decide +kernel) rfl) pa_nil))))
      (pss_one (ps_ret (pe_and (pe_callB call_isi (by rfl) z_isinstance (by decide +kernel) (pa_cons (pv 0) (pa_cons (pe_bltn (v := .ty "int") (by rfl) z_int (by decide +kernel) rfl) pa_nil))) (pe_one (pe_cmpR op_eq (pv 0) (pv 1) (nomark _))))))
      pss_nil)
      (pss_cons (ps_if (pt_val (pe_callB call_isi (by rfl) z_isinstance (by decide +kernel) (pa_cons (pv 1) (pa_cons (pe_bltn (v := .ty "str") (by rfl) z_str (by decide +kernel) rfl) pa_nil))))
      (pss_one (ps_ret (pe_and (pe_callB call_isi (by rfl) z_isinstance (by decide +kernel) (pa_cons (pv 0) (pa_cons (pe_bltn (v := .ty "str") (by rfl) z_str (by decide +kernel) rfl) pa_nil))) (pe_one (pe_cmpR op_eq (pv 0) (pv 1) (nomark _))))))
      pss_nil)
      (pss_cons (ps_if (PW.pt (pw_or (pt_cmpR op_ne (pe_callB call_isi (by rfl) z_isinstance (by decide +kernel) (pa_cons (pv 1) (pa_cons (pe_bltn (v := .ty "list") (by rfl) z_list (by decide +kernel) rfl) pa_nil))) (pe_callB call_isi (by rfl) z_isinstance (by decide +kernel) (pa_cons (pv 0) (pa_cons (pe_bltn (v := .ty "list") (by rfl) z_list (by decide +kernel) rfl) pa_nil))) (nomark _)) (pw_or1 (pt_not (pt_val (pe_callB call_isiT (by rfl) z_isinstance (by decide +kernel) (pa_cons (pv 0) (pa_cons (pe_tup (pa_cons (pe_bltn (v := .ty "list") (by rfl) z_list (by decide +kernel) rfl) (pa_cons (pe_bltn (v := .ty "tuple") (by rfl) z_tuple (by decide +kernel) rfl) pa_nil))) pa_nil))))))))
      (pss_one (ps_ret pe_bl))
      pss_nil)
      (pss_cons (ps_if (pt_cmpR op_ne (pe_callB call_len_seq (by rfl) z_len (by decide +kernel) (pa_cons (pv 0) pa_nil)) (pe_callB call_len_seq (by rfl) z_len (by decide +kernel) (pa_cons (pv 1) pa_nil)) (nomark _))
      (pss_one (ps_ret pe_bl))
      pss_nil)
      (pss_one (ps_ret (pe_cmpR op_eq (pe_callB call_len_seq (by rfl) z_len (by decide +kernel) (pa_cons (pe_lc (own := [("k", 2)]) (by rfl) sc.nd (pi_range1 (by rfl) z_range (pa_cons (pe_callB call_len_seq (by rfl) z_len (by decide +kernel) (pa_cons (pv 1) pa_nil)) pa_nil)) (blkOk_by (own := [("k", 2)]) (N := ["actual", "due", "k"]) (sc := defScope s_law_same) (by decide +kernel)) (fun _ _ _ _ _ => (pg_name (i := 2) sc.nd rfl (by first | exact Or.inl rfl | exact Or.inr rfl))) (fun _ _ _ _ _ => (pts_one (pt_not (pt_val (pe_c C_law_same hr (by omega) (by rfl) (pa_cons (pe_ix (ix_seq : IxR _ (rIx K)) (pv 0) (pv 2) (fun _ _ => rfl)) (pa_cons (pe_ix (ix_seq : IxR _ (rIx K)) (pv 1) (pv 2) (fun _ _ => rfl)) pa_nil))))))) (fun _ _ _ _ _ => (pv 2))) pa_nil)) pe_int (nomark _)))))))))), ?_⟩
    have kd := kitB_isa d
    have ke := kitB_isa e
    have vx : ∀ H1, Ex H H1 → Dp K H1 x d := fun H1 a => dp_ex a d x hx
    have vy : ∀ H1, Ex H H1 → Dp K H1 y e := fun H1 a => dp_ex a e y hy
    -- if due is None
    refine q_when (et_test (ev_isN (ev_var rfl))) (fun hb H1 e1 => ?_) (fun hb H1 e1 => ?_)
    · refine s_ret (ev_isN (ev_var rfl)) fun H2 e2 => ?_
      have z := ans_non hx hy (of_decide_eq_true hb)
      rw [z]
      exact q H2 (e1.trans e2)
    -- if isinstance(due, bool) or isinstance(actual, bool)
    refine q_when (et_or (et_B (ev_isi (vy _ e1) (ev_var rfl) ke.1)) fun _ => et_B (ev_isi (vx _ e1) (ev_var rfl) kd.1)) (fun hc H2 e2 => ?_) (fun hc H2 e2 => ?_)
    · have e12 := e1.trans e2
      refine s_ret (ev_andV (ev_isi (vy _ e12) (ev_var rfl) ke.1) fun h1 => ev_andV (b := decide (x = y)) (ev_isi (vx _ e12) (ev_var rfl) kd.1) fun h2 => ev_op (ev_var rfl) (ev_var rfl) (rv_eq ?_)) fun H3 e3 => ?_
      · exact scal_bool hx hy h1 h2
      · have z := ans_bool hx hy hb hc
        rw [z]
        exact q H3 (e12.trans e3)
    have e12 := e1.trans e2
    obtain ⟨c1, c2⟩ := Bool.or_eq_false_iff.mp hc
    -- if isinstance(due, int)
    refine q_when (et_B (ev_isi (vy _ e12) (ev_var rfl) ke.2.1)) (fun hc H3 e3 => ?_) (fun hci H3 e3 => ?_)
    · have e13 := e12.trans e3
      refine s_ret (ev_andV (b := decide (x = y)) (ev_isi (vx _ e13) (ev_var rfl) kd.2.1) fun h2 => ev_op (ev_var rfl) (ev_var rfl) (rv_eq ?_)) fun H4 e4 => ?_
      · exact scal_int hx hy c1 c2 hc h2
      · have z := ans_int hx hy c1 c2 hc
        rw [z]
        exact q H4 (e13.trans e4)
    have e13 := e12.trans e3
    -- if isinstance(due, str)
    refine q_when (et_B (ev_isi (vy _ e13) (ev_var rfl) ke.2.2.1)) (fun hc H4 e4 => ?_) (fun hcs H4 e4 => ?_)
    · have e14 := e13.trans e4
      refine s_ret (ev_andV (b := decide (x = y)) (ev_isi (vx _ e14) (ev_var rfl) kd.2.2.1) fun h2 => ev_op (ev_var rfl) (ev_var rfl) (rv_eq ?_)) fun H5 e5 => ?_
      · exact scal_str hx hy hc h2
      · have z := ans_str hx hy hc
        rw [z]
        exact q H5 (e14.trans e5)
    have e14 := e13.trans e4
    -- if isinstance(due, list) != isinstance(actual, list) or not isinstance(actual, (list, tuple))
    refine q_when (et_or (et_test (ev_op (ev_isi (vy _ e14) (ev_var rfl) ke.2.2.2.1) (ev_isi (vx _ e14) (ev_var rfl) kd.2.2.2.1) (rv_ne rfl))) fun _ => et_not (et_B (ev_isiLT (vx _ e14) (ev_var rfl)))) (fun hc H5 e5 => ?_) (fun hc H5 e5 => ?_)
    · refine s_ret ev_c fun H6 e6 => ?_
      have z := ans_kind hx hy hb c1 hci hcs hc
      rw [z]
      exact q H6 ((e14.trans e5).trans e6)
    have e15 := e14.trans e5
    obtain ⟨c3, c4⟩ := Bool.or_eq_false_iff.mp hc
    have c5 : isa d "list" = isa e "list" := by
      have := of_decide_eq_true (by simpa using c3 : decide (V.bl (isa e "list") = V.bl (isa d "list")) = true)
      exact (V.bl.inj this).symm
    obtain ⟨a, xs, ds, b, ys, es, rfl, rfl, sx, sy, ax, ay, es0, ft⟩ := both_items (vx _ e15) (vy _ e15) c5 (by rw [Bool.not_eq_false'] at c4; exact c4) hb hci hcs
    obtain ⟨m, em, lx, ly, gx, gy⟩ := ft n' fx fy
    have l1 := dpa_len ax
    have l2 := dpa_len ay
    -- if len(actual) != len(due)
    refine q_when (et_test (ev_op (ev_lenS (ev_var rfl) sx) (ev_lenS (ev_var rfl) sy) (rv_ne rfl))) (fun hc H6 e6 => ?_) (fun hc H6 e6 => ?_)
    · refine s_ret ev_c fun H7 e7 => ?_
      have z : false = sm d e := by
        rw [es0]
        cases e9 : smAll ds es with
        | false => rfl
        | true =>
          have := smAll_len e9
          have h9 : (xs.length : Int) = (ys.length : Int) := by omega
          rw [h9] at hc
          simp at hc
      rw [z]
      exact q H7 ((e15.trans e6).trans e7)
    have h9 : ds.length = es.length := by
      have : V.int (xs.length : Int) = V.int (ys.length : Int) := of_decide_eq_true (by simpa using hc)
      have := V.int.inj this
      omega
    have e16 := e15.trans e6
    have sx := sq_ex e6 sx
    have sy := sq_ex e6 sy
    have ax := dpa_ex e6 ds _ ax
    have ay := dpa_ex e6 es _ ay
    refine s_ret (ev_op (ev_lenN (el_lcR1 (fun i => !sm (ds.getD i .none) (es.getD i .none)) (fun i => .int (i : Int)) (ea_cons (ev_lenS (ev_var rfl) sy) ea_nil) ⟨by omega, by omega⟩ (fun _ => rfl) (fun i H7 e7 hi => ?_) (fun i H7 e7 hi _ => ev_var rfl))) ev_c (rv_eq rfl)) fun H7 e7 => ?_
    · have hi2 : i < es.length := by omega
      obtain ⟨v1, g1, p1⟩ := dpa_at ax (show i < ds.length by omega)
      obtain ⟨v2, g2, p2⟩ := dpa_at ay hi2
      refine et_not (et_B (ev_call (vs := [v1, v2]) (ea_cons (ev_op (ev_var rfl) (ev_var rfl) (rv_ixS (sq_ex e7 sx) (atI_nat g1))) (ea_cons (ev_op (ev_var rfl) (ev_var rfl) (rv_ixS (sq_ex e7 sy) (atI_nat g2))) ea_nil)) fun H8 e8 Q8 q8 E8 => ?_))
      refine ⟨v1, v2, _, _, m, rfl, em, dp_ex (e7.trans e8) _ _ p1, dp_ex (e7.trans e8) _ _ p2, fitAll_mem gx ?_, fitAll_mem gy ?_, q8⟩
      · rw [List.getD_eq_getElem?_getD, List.getElem?_eq_getElem (show i < ds.length by omega)]
        exact List.getElem_mem _
      · rw [List.getD_eq_getElem?_getD, List.getElem?_eq_getElem hi2]
        exact List.getElem_mem _
    · have z : decide (V.int ((given (ys.length : Int).toNat (fun i => !sm (ds.getD i .none) (es.getD i .none)) (fun i => .int (i : Int))).length : Int) = V.int 0) = sm d e := by
        rw [es0, ← smAll_given h9 (fun i => .int (i : Int))]
        have h10 : (ys.length : Int).toNat = es.length := by omega
        rw [h10]
        have : ∀ k : Int, decide (V.int k = V.int 0) = decide (k = 0) := fun k => by
          rw [dec_int]
          exact (Bool.eq_iff_iff.mpr (by simp))
        exact this _
      rw [z]
      exact q H7 (e16.trans e7)
theorem ok_same {f : Addr} {fd : FuncData} (F : Fun K "_law_same" "_law_same" s_law_same f fd) (g : mg "_law_same" = some (.ref f)) (b : Binds K fd ["actual", "due"] []) (z_len : mg "len" = none) (z_isinstance : mg "isinstance" = none) (z_bool : mg "bool" = none) (z_int : mg "int" = none) (z_str : mg "str" = none)
    (z_list : mg "list" = none) (z_tuple : mg "tuple" = none) (z_range : mg "range" = none) : ∀ n, FnOk P w K mg base CX0 n f fd ["actual", "due"] (spSame K n)
  | 0 => ⟨fun _ _ _ _ ⟨_, _, _, _, _, _, h, _⟩ => (nomatch h), fun _ _ _ _ _ _ _ _ _ _ _ _ _ ⟨_, _, _, _, _, _, h, _⟩ => (nomatch h)⟩
  | n + 1 => same_step F z_len z_isinstance z_bool z_int z_str z_list z_tuple z_range ⟨f, fd, _, [], ok_same F g b z_len z_isinstance z_bool z_int z_str z_list z_tuple z_range n, g, F.kp, b, .nil⟩
end
/-! ### more of what evaluates to what -/
section
variable {K : PySem.W.Frag} {σ : L2.St} {H H' : Hp} {ta te tl : TE} {x y z v : V}
theorem el_is {xs ys : List V} (h : EvL te σ H xs) (e : xs = ys) : EvL te σ H ys := e ▸ h
theorem given_all (n : Nat) (v : Nat → V) : given n (fun _ => true) v = (List.range n).map v := by
  unfold given
  rw [List.filter_eq_self.mpr fun _ _ => rfl]
theorem et_yes : EvT tYes σ H true := fun H1 _ _ q => q H1 (Ex.refl H1)
/-- [e for k in range(n)] -/
theorem el_rng {tr : TA} {j : Nat} {vs : List Nat} {n : Nat} (v : Nat → V) (h : EvA tr σ H [.int (n : Int)]) (hn : n ≤ 40000) (hw : ∀ x, wipe ((wipe σ vs).set j (some x)) vs = wipe σ vs)
    (he : ∀ (i : Nat) H1, Ex H H1 → i < n → Ev te ((wipe σ vs).set j (some (.int (i : Int)))) H1 (v i)) : EvL (tLc (iRng1 tr) (gName j) tYes te vs) σ H ((List.range n).map v) :=
  el_is (el_lcR1 (fun _ => true) v h ⟨by omega, by omega⟩ hw (fun _ _ _ _ => et_yes) (fun i H1 e hi _ => he i H1 e (by omega))) (by rw [given_all, Int.toNat_natCast])
theorem ev_sumN {ns : List Int} (h : EvL te σ H (ns.map V.int)) : Ev (tCB (rSum K) (tCons te tNil)) σ H (.int ns.sum) := fun H1 e Q q =>
  h H1 e _ fun p H2 _ e2 h2 => ⟨p, ns, rfl, sq_of h2, q H2 e2⟩
def Cw2 (H : Hp) (n : Nat) (v : Nat → Nat → V) (D : Addr) (t : Nat) (H' : Hp) : Prop := H D = none ∧ Ex H H' ∧ H' D = some (.lst ((List.range t).map fun m => v (m / n) (m % n)))
/-- [e for i in range(w) for j in range(n)] -/
theorem el_rng2 {tr tr1 : TA} {j j1 : Nat} {vs vs1 : List Nat} {w n : Nat} (v : Nat → Nat → V) (h : EvA tr σ H [.int (w : Int)]) (hw0 : w ≤ 100) (hn0 : n ≤ 100)
    (hw : ∀ x, wipe ((wipe σ vs).set j (some x)) vs = wipe σ vs) (h1 : ∀ (i : Nat) H1, Ex H H1 → i < w → EvA tr1 ((wipe σ vs).set j (some (.int (i : Int)))) H1 [.int (n : Int)])
    (hw1 : ∀ x y, wipe ((wipe ((wipe σ vs).set j (some x)) vs1).set j1 (some y)) vs1 = wipe ((wipe σ vs).set j (some x)) vs1)
    (he : ∀ (i k : Nat) H1, Ex H H1 → i < w → k < n → Ev te ((wipe ((wipe σ vs).set j (some (.int (i : Int)))) vs1).set j1 (some (.int (k : Int)))) H1 (v i k)) :
    EvL (tLc2 (iRng1 tr) (gName j) tYes (iRng1 tr1) (gName j1) tYes te vs vs1) σ H ((List.range (w * n)).map fun m => v (m / n) (m % n)) := fun H0 e Q q => h H0 e _ fun H1 e1 => ⟨(w : Int), rfl, by omega, by omega, fun D hD => by
  have e01 := e.trans e1
  refine ⟨fun i m H' => m = w - i ∧ i ≤ w ∧ Cw2 H1 n v D (i * n) H', ⟨w, by omega, by omega, hD, Ex.new hD, ?_⟩, fun i m H' hW => ?_⟩
  · rw [upd_same, Nat.zero_mul]; rfl
  · obtain ⟨rfl, hi, p⟩ := hW
    by_cases hlt : i < w
    · refine .inr ⟨show i < (w : Int).toNat by omega, fun H2 => Cw2 H1 n v D ((i + 1) * n) H2, fun H2 p2 => ⟨w - (i + 1), by omega, rfl, hlt, p2⟩, fun x H2 y => ?_⟩
      obtain ⟨rfl, rfl⟩ := y
      have e0 : (0 : Int) + (i : Int) = (i : Int) := Int.zero_add _
      show wipe ((wipe σ vs).set j (some (.int ((0 : Int) + (i : Int))))) vs = wipe σ vs ∧ _
      refine ⟨hw _, ?_⟩
      rw [e0]
      refine h1 i _ (e01.trans p.2.1) hlt _ (Ex.refl _) _ fun H3 e3 => ⟨(n : Int), rfl, by omega, by omega, fun k m H4 => m = n - k ∧ k ≤ n ∧ Cw2 H1 n v D (i * n + k) H4, ⟨n, by omega, by omega, p.1, p.2.1.trans e3, e3 _ _ p.2.2⟩, fun k m H4 hW => ?_⟩
      obtain ⟨rfl, hk, p4⟩ := hW
      by_cases hlk : k < n
      · refine .inr ⟨show k < (n : Int).toNat by omega, fun H5 => Cw2 H1 n v D (i * n + (k + 1)) H5, fun H5 p5 => ⟨n - (k + 1), by omega, rfl, hlk, p5⟩, fun x H5 y => ?_⟩
        obtain ⟨rfl, rfl⟩ := y
        have e0 : (0 : Int) + (k : Int) = (k : Int) := Int.zero_add _
        show wipe ((wipe ((wipe σ vs).set j (some (.int (i : Int)))) vs1).set j1 (some (.int ((0 : Int) + (k : Int))))) vs1 = wipe ((wipe σ vs).set j (some (.int (i : Int)))) vs1 ∧ _
        refine ⟨hw1 _ _, ?_⟩
        rw [e0]
        show te _ _ _
        have hh : i * n + k < 10000 := by
          have : i * n ≤ 99 * 100 := Nat.mul_le_mul (by omega) hn0
          omega
        refine he i k _ (e01.trans p4.2.1) hlt hlk _ (Ex.refl _) _ fun H6 e6 => ⟨_, e6 _ _ p4.2.2, ?_, p4.1, Ex.mut (p4.2.1.trans e6) p4.1, ?_⟩
        · rw [List.length_map, List.length_range]
          exact sz_lt (by omega)
        · rw [upd_same, ← Nat.add_assoc, List.range_succ, List.map_append]
          have h1 : (i * n + k) / n = i := by rw [Nat.mul_comm, Nat.mul_add_div (by omega), Nat.div_eq_of_lt hlk, Nat.add_zero]
          have h2 : (i * n + k) % n = k := by rw [Nat.mul_comm, Nat.mul_add_mod, Nat.mod_eq_of_lt hlk]
          rw [List.map_singleton, h1, h2]
      · have : k = n := by omega
        subst this
        refine .inl ⟨show (k : Int).toNat ≤ k by omega, ?_⟩
        rw [Nat.succ_mul]
        exact p4
    · have : i = w := by omega
      subst this
      exact .inl ⟨show (i : Int).toNat ≤ i by omega, q D H' (fresh_back e1 p.1) (e1.trans p.2.1) p.2.2⟩⟩
/-- a comprehension over a list that is made on the way -/
theorem lc_new {xs : List V} {g : TG} {tt : TT} {vs : List Nat} {Q : VK} (h : EvL tl σ H xs)
    (k : ∀ L H1, H L = none → Ex H H1 → H1 L = some (.lst xs) → ∀ D, H1 D = none → ∃ W : Nat → Nat → Hp → Prop, (∃ m, W 0 m (upd H1 D (.lst []))) ∧ ∀ i m H, W i m H →
      ((Itl K L).stop i H ∧ Q (.ref D) H) ∨ ((Itl K L).go i H ∧ ∃ Nx : Hp → Prop, (∀ H', Nx H' → ∃ m', m' < m ∧ W (i + 1) m' H') ∧ ∀ x H', (Itl K L).yld i H x H' → g x (wipe σ vs) H' fun σ2 H2 => wipe σ2 vs = wipe σ vs ∧ tt σ2 H2 fun b H3 =>
        if b = true then te σ2 H3 fun y H4 => ∃ acc, H4 D = some (.lst acc) ∧ acc.length < sizeLine ∧ Nx (upd H4 D (.lst (acc ++ [y]))) else Nx H3)) : tLc (iList K tl) g tt te vs σ H Q :=
  h H (Ex.refl H) _ fun L H1 nL e1 hL => ⟨L, rfl, ⟨xs, sq_of hL⟩, k L H1 nL e1 hL⟩
theorem s_retR {D : Ends} (h : te σ H D.rt) : tRet te D σ H := h
end
/-! ### what evaluates to something that is so -/
section
variable {K : PySem.W.Frag} {σ : L2.St} {H H' : Hp} {ta te tx ty : TE} {v : V} {Φ Ψ : V → Hp → Prop} {E : XK}
def EvP (te : TE) (σ : L2.St) (H : Hp) (Φ : V → Hp → Prop) : Prop := ∀ H1, Ex H H1 → ∀ Q : VK, (∀ v H2, Ex H1 H2 → Φ v H2 → Q v H2) → te σ H1 Q
theorem EvP.mono (h : EvP te σ H Φ) (e : Ex H H') : EvP te σ H' Φ := fun H1 a Q q => h H1 (e.trans a) Q q
theorem EvP.imp (h : EvP te σ H Φ) (k : ∀ v H2, Ex H H2 → Φ v H2 → Ψ v H2) : EvP te σ H Ψ := fun H1 a Q q => h H1 a Q fun v H2 e f => q v H2 e (k v H2 (a.trans e) f)
theorem ep_ev (h : Ev te σ H v) (k : ∀ H2, Ex H H2 → Φ v H2) : EvP te σ H Φ := fun H1 a Q q => h H1 a Q fun H2 e => q v H2 e (k H2 (a.trans e))
theorem ep_el {xs : List V} (h : EvL te σ H xs) (k : ∀ p H2, Ex H H2 → H2 p = some (.lst xs) → Φ (.ref p) H2) : EvP te σ H Φ := fun H1 a Q q => h H1 a Q fun p H2 _ e hp => q _ H2 e (k p H2 (a.trans e) hp)
theorem ep_call1 {sp : Sp} (h : EvP tx σ H Φ) (k : ∀ v H2, Ex H H2 → Φ v H2 → ∀ Q : VK, (∀ w H3, Ex H2 H3 → Ψ w H3 → Q w H3) → sp [v] H2 Q E) : EvP (tCall sp [] E (tCons tx tNil)) σ H Ψ := fun H1 a Q q =>
  h H1 a _ fun v H2 e f => k v H2 (a.trans e) f Q fun w H3 e3 g => q w H3 (e.trans e3) g
/-- data -/
def DP (K : PySem.W.Frag) (d : PyData) (v : V) (H : Hp) : Prop := Dp K H v d
theorem ep_dp {d : PyData} (h : Ev te σ H v) (hd : Dp K H v d) : EvP te σ H (DP K d) := ep_ev h fun _ e => dp_ex e d v hd
theorem ev_same {d : PyData} {n : Nat} (hx : EvP tx σ H (DP K d)) (hy : EvP ty σ H (DP K d)) (hf : fit d n = true) : Ev (tCall (spSame K (n + 1)) [] E (tCons tx (tCons ty tNil))) σ H (.bl true) := fun H1 a Q q =>
  hx H1 a _ fun x H2 e2 dx => hy H2 (a.trans e2) _ fun y H3 e3 dy => ⟨x, y, d, d, n, rfl, rfl, dp_ex e3 d x dx, dy, hf, hf, fun H4 e4 => by
    rw [sm_refl d n hf]
    exact q H4 ((e2.trans e3).trans e4)⟩
/-- if not same(..): return False -/
theorem q_same {D : Ends} {d : PyData} {n : Nat} {tr tz : TS} (hx : EvP tx σ H (DP K d)) (hy : EvP ty σ H (DP K d)) (hf : fit d n = true) (k : ∀ H1, Ex H H1 → tz D σ H1) :
    tSeq (tIfS (tNot (tB (tCall (spSame K (n + 1)) [] E (tCons tx (tCons ty tNil))))) tr tNext) tz D σ H :=
  q_when (et_not (et_B (ev_same hx hy hf))) (fun h => (nomatch h)) fun _ H1 e => k H1 e
/-- a list of ints -/
def IL (K : PySem.W.Frag) (l : List Int) (v : V) (H : Hp) : Prop := ∃ a, v = .ref a ∧ SqL K H a (l.map V.int)
abbrev LI (l : List Int) : PyData := .list (l.map PyData.int)
theorem ep_il {a : Addr} {l : List Int} (h : Ev te σ H (.ref a)) (hS : SqL K H a (l.map V.int)) : EvP te σ H (IL K l) := ep_ev h fun _ e => ⟨a, rfl, ex_l e hS⟩
theorem il_el {l : List Int} (h : EvL te σ H (l.map V.int)) : EvP te σ H (IL K l) := ep_el h fun p H2 _ hp => ⟨p, rfl, sq_of hp⟩
theorem il_dp {l : List Int} (h : EvP te σ H (IL K l)) : EvP te σ H (DP K (LI l)) := h.imp fun v H2 _ f => by
  obtain ⟨a, rfl, hS⟩ := f
  exact .lst hS (dpa_ints l)
theorem fit_LI {l : List Int} {n : Nat} (h : l.length ≤ 10000) : fit (LI l) (n + 1) = true := by
  rw [fit, fit_ints, Bool.and_true, decide_eq_true_eq, List.length_map]
  exact h
theorem q_run {i : Nat} {tz : TS} {D : Ends} (h : te σ H fun v H1 => tz D (σ.set i (some v)) H1) : tSeq (tAsg te (gName i)) tz D σ H := h
end
/-! ### statements -/
inductive Stm where
  | set (k : Nat) (r : List Int)
  | carry (r : List Int)
  | keep (cs : List Nat) (b : List Stm)
  | either (a b : List Stm)
  | again (b : List Stm)
  | call (p : Nat) (r : List Int) (a b : List Stm)
  | fin (w : Nat)
mutual
def toD : Stm → PyData
  | .set k r => .tuple [.str "set", .int (k : Int), LI r]
  | .carry r => .tuple [.str "carry", LI r]
  | .keep cs b => .tuple [.str "keep", LI (cs.map (Nat.cast : Nat → Int)), .list (toDs b)]
  | .either a b => .tuple [.str "either", .list (toDs a), .list (toDs b)]
  | .again b => .tuple [.str "again", .list (toDs b)]
  | .call p r a b => .tuple [.str "call", .int (p : Int), LI r, .list [.list (toDs a), .list (toDs b)]]
  | .fin w => .tuple [.str "end", .int (w : Int)]
def toDs : List Stm → List PyData
  | [] => []
  | s :: r => toD s :: toDs r
end
mutual
/-- how many statements, all levels counted -/
def cnt : Stm → Nat
  | .set _ _ => 1
  | .carry _ => 1
  | .keep _ b => 1 + cntL b
  | .either a b => 1 + cntL a + cntL b
  | .again b => 1 + cntL b
  | .call _ _ a b => 1 + cntL a + cntL b
  | .fin _ => 1
def cntL : List Stm → Nat
  | [] => 0
  | s :: r => cnt s + cntL r
end
def okR (c : Nat) (r : List Int) : Prop := r.length = c + 2 ∧ ∀ x ∈ r, -9 ≤ x ∧ x ≤ 9
/-- ascending, each below c -/
def asc (c : Nat) (cs : List Nat) : Prop := cs.Pairwise (· < ·) ∧ ∀ k ∈ cs, k < c
mutual
/-- a statement of a book with c cells and m procedures, at a level -/
def okS (c m : Nat) : Stm → Nat → Prop
  | .set k r, _ => k < c ∧ okR c r
  | .carry r, _ => okR c r
  | .keep cs b, lv => lv < 3 ∧ asc c cs ∧ b.length ≤ 8 ∧ okL c m b (lv + 1)
  | .either a b, lv => lv < 3 ∧ a.length ≤ 8 ∧ okL c m a (lv + 1) ∧ b.length ≤ 8 ∧ okL c m b (lv + 1)
  | .again b, lv => lv < 3 ∧ b.length ≤ 8 ∧ okL c m b (lv + 1)
  | .call p r a b, lv => lv < 3 ∧ p < m ∧ okR c r ∧ a.length ≤ 8 ∧ okL c m a (lv + 1) ∧ b.length ≤ 8 ∧ okL c m b (lv + 1)
  | .fin w, _ => w < 2
def okL (c m : Nat) : List Stm → Nat → Prop
  | [], _ => True
  | s :: r, lv => okS c m s lv ∧ okL c m r lv
end
theorem okL_app {c m lv : Nat} : ∀ {a b : List Stm}, okL c m a lv → okL c m b lv → okL c m (a ++ b) lv
  | [], _, _, h => h
  | s :: r, b, h, g => by
    rw [okL] at h
    rw [List.cons_append, okL]
    exact ⟨h.1, okL_app h.2 g⟩
theorem cntL_app : ∀ (a b : List Stm), cntL (a ++ b) = cntL a + cntL b
  | [], b => by rw [List.nil_append, cntL, Nat.zero_add]
  | s :: r, b => by rw [List.cons_append, cntL, cntL, cntL_app r b, Nat.add_assoc]
theorem toDs_app : ∀ (a b : List Stm), toDs (a ++ b) = toDs a ++ toDs b
  | [], b => by rw [List.nil_append, toDs, List.nil_append]
  | s :: r, b => by rw [List.cons_append, toDs, toDs, toDs_app r b, List.cons_append]
theorem toDs_map : ∀ l : List Stm, toDs l = l.map toD
  | [] => by rw [toDs]; rfl
  | s :: r => by rw [toDs, toDs_map r]; rfl
theorem toDs_len (l : List Stm) : (toDs l).length = l.length := by rw [toDs_map, List.length_map]
theorem okL_mem {c m lv : Nat} : ∀ {l : List Stm} {s : Stm}, okL c m l lv → s ∈ l → okS c m s lv
  | t :: r, s, h, hm => by
    rw [okL] at h
    rcases List.mem_cons.mp hm with rfl | hm
    · exact h.1
    · exact okL_mem h.2 hm
/-! ### data whose lists and tuples stand where N says -/
mutual
inductive Dq (N : Addr → Prop) (H : Hp) : V → PyData → Prop
  | non : Dq N H .non .none
  | bl (b : Bool) : Dq N H (.bl b) (.bool b)
  | int (i : Int) : Dq N H (.int i) (.int i)
  | str (x : Str) : Dq N H (.str x) (.str x)
  | lst {a : Addr} {xs : List V} {ds : List PyData} : N a → H a = some (.lst xs) → DqAll N H xs ds → Dq N H (.ref a) (.list ds)
  | tup {a : Addr} {xs : List V} {ds : List PyData} : N a → H a = some (.tup xs) → DqAll N H xs ds → Dq N H (.ref a) (.tuple ds)
inductive DqAll (N : Addr → Prop) (H : Hp) : List V → List PyData → Prop
  | nil : DqAll N H [] []
  | cons {v : V} {vs : List V} {d : PyData} {ds : List PyData} : Dq N H v d → DqAll N H vs ds → DqAll N H (v :: vs) (d :: ds)
end
section
variable {N N' : Addr → Prop} {H H' : Hp} {K : PySem.W.Frag}
mutual
theorem dq_to (h : ∀ a, N a → N' a) (k : ∀ a o, N a → H a = some o → H' a = some o) : ∀ (d : PyData) (v : V), Dq N H v d → Dq N' H' v d
  | .none, _, x => by cases x; exact .non
  | .bool _, _, x => by cases x; exact .bl _
  | .int _, _, x => by cases x; exact .int _
  | .str _, _, x => by cases x; exact .str _
  | .list ds, _, x => by
    cases x with
    | lst n s a => exact .lst (h _ n) (k _ _ n s) (dqa_to h k ds _ a)
  | .tuple ds, _, x => by
    cases x with
    | tup n s a => exact .tup (h _ n) (k _ _ n s) (dqa_to h k ds _ a)
  | .dict _, _, x => by cases x
theorem dqa_to (h : ∀ a, N a → N' a) (k : ∀ a o, N a → H a = some o → H' a = some o) : ∀ (ds : List PyData) (vs : List V), DqAll N H vs ds → DqAll N' H' vs ds
  | [], _, x => by cases x; exact .nil
  | d :: ds, _, x => by
    cases x with
    | cons a b => exact .cons (dq_to h k d _ a) (dqa_to h k ds _ b)
end
mutual
theorem dq_dp : ∀ (d : PyData) (v : V), Dq N H v d → Dp K H v d
  | .none, _, x => by cases x; exact .non
  | .bool _, _, x => by cases x; exact .bl _
  | .int _, _, x => by cases x; exact .int _
  | .str _, _, x => by cases x; exact .str _
  | .list ds, _, x => by
    cases x with
    | lst n s a => exact .lst (sq_of s) (dqa_dpa ds _ a)
  | .tuple ds, _, x => by
    cases x with
    | tup n s a => exact .tup (st_of s) (dqa_dpa ds _ a)
  | .dict _, _, x => by cases x
theorem dqa_dpa : ∀ (ds : List PyData) (vs : List V), DqAll N H vs ds → DpAll K H vs ds
  | [], _, x => by cases x; exact .nil
  | d :: ds, _, x => by
    cases x with
    | cons a b => exact .cons (dq_dp d _ a) (dqa_dpa ds _ b)
end
theorem dqa_app : ∀ {vs ws : List V} {ds es : List PyData}, DqAll N H vs ds → DqAll N H ws es → DqAll N H (vs ++ ws) (ds ++ es)
  | _, _, _, _, .nil, h => h
  | _, _, _, _, .cons a b, h => .cons a (dqa_app b h)
theorem dqa_len : ∀ {vs : List V} {ds : List PyData}, DqAll N H vs ds → vs.length = ds.length
  | _, _, .nil => rfl
  | _, _, .cons _ b => by rw [List.length_cons, List.length_cons, dqa_len b]
theorem dqa_ints : ∀ ns : List Int, DqAll N H (ns.map V.int) (ns.map PyData.int)
  | [] => .nil
  | n :: r => .cons (.int n) (dqa_ints r)
theorem dq_LI {a : Addr} {l : List Int} (n : N a) (h : H a = some (.lst (l.map V.int))) : Dq N H (.ref a) (LI l) := .lst n h (dqa_ints l)
end
/-- new since H -/
def New (H : Hp) (a : Addr) : Prop := H a = none
/-- all but p and wd as it was -/
def Oth2 (p wd : Addr) (H H' : Hp) : Prop := ∀ a o, a ≠ p → a ≠ wd → H a = some o → H' a = some o
theorem Oth2.refl (p wd : Addr) (H : Hp) : Oth2 p wd H H := fun _ _ _ _ h => h
theorem Oth2.trans {p wd : Addr} {H H1 H2 : Hp} (a : Oth2 p wd H H1) (b : Oth2 p wd H1 H2) : Oth2 p wd H H2 := fun c o n m h => b c o n m (a c o n m h)
theorem Oth2.of {p wd : Addr} {H H1 : Hp} (a : Ex H H1) : Oth2 p wd H H1 := fun c o _ _ h => a c o h
theorem Oth2.one {p wd : Addr} {H H1 : Hp} (a : Oth p H H1) : Oth2 p wd H H1 := fun c o n _ h => a c o n h
theorem new_back {p : Addr} {H H1 : Hp} {a : Addr} (o : Oth p H H1) (hp : ∃ u, H1 p = some u) (h : New H1 a) : New H a := by
  obtain ⟨u, hu⟩ := hp
  have hap : a ≠ p := fun z => by rw [z] at h; unfold New at h; rw [hu] at h; cases h
  unfold New at *
  cases e : H a with
  | none => rfl
  | some w => rw [o _ _ hap e] at h; cases h
theorem new_ne {H : Hp} {a p : Addr} (h : New H a) (hp : ∃ u, H p = some u) : a ≠ p := fun z => by
  obtain ⟨u, hu⟩ := hp
  unfold New at h
  rw [z, hu] at h; cases h
theorem new_back2 {p wd : Addr} {H H1 : Hp} {a : Addr} (o : Oth2 p wd H H1) (hp : ∃ u, H1 p = some u) (hw : ∃ u, H1 wd = some u) (h : New H1 a) : New H a := by
  have h1 := new_ne h hp
  have h2 := new_ne h hw
  unfold New at *
  cases e : H a with
  | none => rfl
  | some w => rw [o _ _ h1 h2 e] at h; cases h
/-- the counts of a body that is being made -/
structure World3 (H : Hp) (wd q : Addr) (c m room : Nat) : Prop where
  hw : H wd = some (.lst [.int (c : Int), .int (m : Int), .int (room : Int)])
  ne : wd ≠ q
theorem World3.nep {H : Hp} {wd p q : Addr} {c m room : Nat} (w : World3 H wd q c m room) (x : Pool H p q) : wd ≠ p := by
  obtain ⟨i, b, t, s, cs, x⟩ := x
  exact ne_of w.hw x.hp fun e => by
    have := congrArg List.length (HO.lst.inj e)
    cases this
theorem World3.one {H H' : Hp} {wd p q : Addr} {c m room : Nat} (w : World3 H wd q c m room) (x : Pool H p q) (o : Oth p H H') : World3 H' wd q c m room := ⟨o _ _ (w.nep x) w.hw, w.ne⟩
theorem World3.ex {H H' : Hp} {wd q : Addr} {c m room : Nat} (w : World3 H wd q c m room) (o : Ex H H') : World3 H' wd q c m room := ⟨o _ _ w.hw, w.ne⟩
abbrev s_law_row : Stmt := topS 38
theorem sc_law_row : FnScope ["pool", "cells", "row", "k", "wide"] ["pool", "cells"] (defScope s_law_row) := ⟨rfl, rfl, rfl, by decide +kernel, rfl, by decide +kernel, by decide +kernel⟩
abbrev s_law_command : Stmt := topS 39
theorem sc_law_command : FnScope ["pool", "cells", "at"] ["pool", "cells"] (defScope s_law_command) := ⟨rfl, rfl, rfl, by decide +kernel, rfl, by decide +kernel, by decide +kernel⟩
abbrev s_law_some_cells : Stmt := topS 40
theorem sc_law_some_cells : FnScope ["pool", "cells", "cell", "k"] ["pool", "cells"] (defScope s_law_some_cells) := ⟨rfl, rfl, rfl, by decide +kernel, rfl, by decide +kernel, by decide +kernel⟩
section
variable {P : Program} {w : World} {K : PySem.W.Frag} {mg : Str → Option Value} {base : Heap}
def spRow : Sp := fun vs H Q _ => ∃ (p q : Addr) (c : Nat), vs = [.ref p, .int (c : Int)] ∧ c ≤ 3 ∧ Pool H p q ∧ ∀ (r : List Int) (D : Addr) (H' : Hp), okR c r → H D = none → Oth p H H' → Pool H' p q → H' D = some (.lst (r.map V.int)) → Q (.ref D) H'
theorem ok_row {f : Addr} {fd : FuncData} {k : Nat} (F : Fun K "_law_row" "_law_row" s_law_row f fd) (z_range : mg "range" = none) (C_law_draw : Cal P w K mg base 1 "_law_draw" spDraw []) (hk : 1 ≤ k) : FnOk P w K mg base CX0 (k + 1) f fd ["pool", "cells"] spRow := by
  have sc := sc_law_row
  refine F.ok sc (fun vs H Q E h => ?_) (fun cdv A outer s H vs Q E hr h => ?_)
  · obtain ⟨p, q0, c, rfl, _⟩ := h
    rfl
  · obtain ⟨p, q0, c, rfl, h3, x, q⟩ := h
    refine ⟨_, (pss_cons (ps_set (i := 2) sc.nd rfl (by first | exact Or.inl rfl | exact Or.inr rfl) (pe_lst pa_nil))
      (pss_cons (ps_for PassesOwn.never rfl (pi_range1 (by rfl) z_range (pa_cons (pe_op op_add (pv 1) pe_int) pa_nil)) (pg_name (i := 3) sc.nd rfl (by first | exact Or.inl rfl | exact Or.inr rfl))
      (pss_cons (ps_set (i := 4) sc.nd rfl (by first | exact Or.inl rfl | exact Or.inr rfl) (pe_c C_law_draw hr (by omega) (by rfl) (pa_cons (pv 0) (pa_cons pe_int pa_nil))))
      (pss_one (ps_if (pt_cmpR op_eq (pv 4) pe_int (nomark _))
      (pss_one (ps_expr (pe_bm PySem.F.plainAttrs_list PySem.F.slot_list_append PySem.F.type_list_append mt_append (pv 2) (pa_cons (pe_op op_sub (pe_c C_law_draw hr (by omega) (by rfl) (pa_cons (pv 0) (pa_cons pe_int pa_nil))) pe_int) pa_nil))))
      (pss_one (ps_expr (pe_bm PySem.F.plainAttrs_list PySem.F.slot_list_append PySem.F.type_list_append mt_append (pv 2) (pa_cons (pe_op op_sub (pe_c C_law_draw hr (by omega) (by rfl) (pa_cons (pv 0) (pa_cons pe_int pa_nil))) pe_int) pa_nil))))))))
      (pss_one (ps_ret (pv 2))))), ?_⟩
    refine q_asgL (el_lst ea_nil (by decide)) fun F0 H1 nF e1 hF => ?_
    have Fp : F0 ≠ p := new_ne nF x.isP
    have Fq : F0 ≠ q0 := new_ne nF x.isQ
    refine q_forR1 (n := ((c + 2 : Nat) : Int)) (ea_cons (ev_is (ev_op (ev_var rfl) ev_c rv_I0) (by rw [Int.natCast_add]; rfl)) ea_nil) ⟨by omega, by omega⟩
      (fun i σ' H' => ∃ (r : List Int) (y3 y4 : Option V), σ' = [some (.ref p), some (.int (c : Int)), some (.ref F0), y3, y4] ∧ r.length = i ∧ (∀ z ∈ r, -9 ≤ z ∧ z ≤ 9) ∧ Oth p H H' ∧ Pool H' p q0 ∧ H' F0 = some (.lst (r.map V.int)))
      (fun H2 e2 => ⟨[], _, _, rfl, rfl, fun _ h => (nomatch h), .of (e1.trans e2), x.ex (e1.trans e2), e2 _ _ hF⟩) (fun i σ' H' hi hW => ?_) (fun σ' H' hW => ?_)
    · obtain ⟨r, y3, y4, rfl, rfl, hb, o, x, hF⟩ := hW
      have add : ∀ (z : Int) (H3 : Hp), -9 ≤ z → z ≤ 9 → Oth p H' H3 → Pool H3 p q0 → ∃ acc, H3 F0 = some (.lst acc) ∧ acc = r.map V.int ∧ ∃ (r' : List Int), acc ++ [V.int z] = r'.map V.int ∧ r'.length = r.length + 1 ∧ (∀ y ∈ r', -9 ≤ y ∧ y ≤ 9) ∧ Oth p H (upd H3 F0 (.lst (acc ++ [V.int z]))) ∧ Pool (upd H3 F0 (.lst (acc ++ [V.int z]))) p q0 := fun z H3 z0 z9 o3 x3 => by
        refine ⟨_, o3 _ _ Fp hF, rfl, r ++ [z], by rw [List.map_append]; rfl, by simp, fun y hy => ?_, fun a u na ha => ?_, x3.upd Fp Fq⟩
        · rcases List.mem_append.mp hy with hy | hy
          · exact hb y hy
          · rw [List.mem_singleton.mp hy]; exact ⟨z0, z9⟩
        · rw [upd_ne (ne_of_none ha nF)]
          exact o3 _ _ na (o _ _ na ha)
      refine q_run ?_
      refine ⟨.ref p, rfl, p, q0, 4, rfl, by decide, by decide, x, fun wd H2 w0 w4 o2 x2 => ?_⟩
      refine ⟨.int wd, rfl, rfl, _, rfl, ite2 (fun _ => ?_) (fun _ => ?_)⟩
      · refine ⟨.ref F0, rfl, .inl ⟨rfl, _, sq_of (o2 _ _ Fp hF)⟩, .ref p, rfl, p, q0, 19, rfl, by decide, by decide, x2, fun z H3 z0 z1 o3 x3 => ?_⟩
        obtain ⟨acc, hacc, ea, r', er, lr, br, oo, xx⟩ := add (z - 9) H3 (by omega) (by omega) (o2.trans o3) x3
        refine ⟨z, 9, rfl, rfl, F0, acc, _, rfl, rfl, hacc, ?_, r', _, _, rfl, lr, br, oo, xx, ?_⟩
        · rw [ea, List.length_map]; exact sz_lt (by omega)
        · rw [upd_same, er]
      · refine ⟨.ref F0, rfl, .inl ⟨rfl, _, sq_of (o2 _ _ Fp hF)⟩, .ref p, rfl, p, q0, 3, rfl, by decide, by decide, x2, fun z H3 z0 z1 o3 x3 => ?_⟩
        obtain ⟨acc, hacc, ea, r', er, lr, br, oo, xx⟩ := add (z - 1) H3 (by omega) (by omega) (o2.trans o3) x3
        refine ⟨z, 1, rfl, rfl, F0, acc, _, rfl, rfl, hacc, ?_, r', _, _, rfl, lr, br, oo, xx, ?_⟩
        · rw [ea, List.length_map]; exact sz_lt (by omega)
        · rw [upd_same, er]
    · obtain ⟨r, y3, y4, rfl, lr, hb, o, x, hF⟩ := hW
      refine s_ret (ev_var rfl) fun H2 e2 => q r F0 H2 ⟨by omega, hb⟩ nF (o.trans (.of e2)) (x.ex e2) (e2 _ _ hF)
/-- a command -/
def isCmd (c : Nat) : Stm → Prop
  | .set k r => k < c ∧ okR c r
  | .carry r => okR c r
  | _ => False
theorem isCmd_ok {c m lv : Nat} {s : Stm} (h : isCmd c s) : okS c m s lv ∧ cnt s = 1 := by
  cases s with
  | set k r => rw [okS, cnt]; exact ⟨h, rfl⟩
  | carry r => rw [okS, cnt]; exact ⟨h, rfl⟩
  | _ => exact h.elim
def spCmd : Sp := fun vs H Q _ => ∃ (p q : Addr) (c : Nat), vs = [.ref p, .int (c : Int)] ∧ 1 ≤ c ∧ c ≤ 3 ∧ Pool H p q ∧ ∀ (s : Stm) (v : V) (H' : Hp), isCmd c s → Oth p H H' → Pool H' p q → Dq (New H) H' v (toD s) → Q v H'
theorem ok_command {f : Addr} {fd : FuncData} {k : Nat} (F : Fun K "_law_command" "_law_command" s_law_command f fd) (C_law_draw : Cal P w K mg base 1 "_law_draw" spDraw []) (C_law_row : Cal P w K mg base 2 "_law_row" spRow []) (hk : 2 ≤ k) : FnOk P w K mg base CX0 (k + 1) f fd ["pool", "cells"] spCmd := by
  have sc := sc_law_command
  refine F.ok sc (fun vs H Q E h => ?_) (fun cdv A outer s H vs Q E hr h => ?_)
  · obtain ⟨p, q0, c, rfl, _⟩ := h
    rfl
  · obtain ⟨p, q0, c, rfl, h1, h3, x, q⟩ := h
    refine ⟨_, (pss_cons (ps_set (i := 2) sc.nd rfl (by first | exact Or.inl rfl | exact Or.inr rfl) (pe_c C_law_draw hr (by omega) (by rfl) (pa_cons (pv 0) (pa_cons (pe_op op_add (pv 1) pe_int) pa_nil))))
      (pss_cons (ps_if (pt_cmpR op_eq (pv 2) (pv 1) (nomark _))
      (pss_one (ps_ret (pe_tup (pa_cons pe_str (pa_cons (pe_c C_law_row hr (by omega) (by rfl) (pa_cons (pv 0) (pa_cons (pv 1) pa_nil))) pa_nil)))))
      pss_nil)
      (pss_one (ps_ret (pe_tup (pa_cons pe_str (pa_cons (pv 2) (pa_cons (pe_c C_law_row hr (by omega) (by rfl) (pa_cons (pv 0) (pa_cons (pv 1) pa_nil))) pa_nil)))))))), ?_⟩
    refine q_run ?_
    refine ⟨.ref p, rfl, .int (c : Int), rfl, (c : Int), 1, rfl, rfl, p, q0, (c : Int) + 1, rfl, by omega, Nat.lt_of_le_of_lt (show ((c : Int) + 1).natAbs ≤ 4 by omega) (by decide), x, fun z H2 z0 z1 o2 x2 => ?_⟩
    refine ⟨.int z, rfl, .int (c : Int), rfl, rfl, _, rfl, ite2 (fun _ => ?_) (fun hz => ?_)⟩
    · refine ⟨.ref p, rfl, .int (c : Int), rfl, p, q0, c, rfl, h3, x2, fun r D H3 hr nD o3 x3 hD => ?_⟩
      refine ⟨by show 2 ≤ sizeLine; decide, fun T nT => q (.carry r) _ _ hr (o2.trans (o3.trans (.of (Ex.new nT)))) (x3.ex (Ex.new nT)) ?_⟩
      rw [toD]
      have nD0 : New H D := new_back o2 x2.isP nD
      exact .tup (new_back (o2.trans o3) x3.isP nT) upd_same (.cons (.str _) (.cons (dq_LI nD0 (Ex.new nT _ _ hD)) .nil))
    · have hne : z ≠ (c : Int) := fun e => hz (by rw [e]; exact decide_eq_true rfl)
      obtain ⟨kk, rfl⟩ : ∃ kk : Nat, z = (kk : Int) := ⟨z.toNat, by omega⟩
      refine ⟨.int (kk : Int), rfl, .ref p, rfl, .int (c : Int), rfl, p, q0, c, rfl, h3, x2, fun r D H3 hr nD o3 x3 hD => ?_⟩
      refine ⟨by show 3 ≤ sizeLine; decide, fun T nT => q (.set kk r) _ _ ⟨by omega, hr⟩ (o2.trans (o3.trans (.of (Ex.new nT)))) (x3.ex (Ex.new nT)) ?_⟩
      rw [toD]
      have nD0 : New H D := new_back o2 x2.isP nD
      exact .tup (new_back (o2.trans o3) x3.isP nT) upd_same (.cons (.str _) (.cons (.int _) (.cons (dq_LI nD0 (Ex.new nT _ _ hD)) .nil)))
def spCells : Sp := fun vs H Q _ => ∃ (p q : Addr) (c : Nat), vs = [.ref p, .int (c : Int)] ∧ c ≤ 3 ∧ Pool H p q ∧ ∀ (cs : List Nat) (D : Addr) (H' : Hp), asc c cs → H D = none → Oth p H H' → Pool H' p q → H' D = some (.lst ((cs.map (Nat.cast : Nat → Int)).map V.int)) → Q (.ref D) H'
theorem asc_step {i : Nat} {cs : List Nat} (h : asc i cs) : asc (i + 1) (cs ++ [i]) ∧ asc (i + 1) cs := by
  refine ⟨⟨?_, fun k hk => ?_⟩, h.1, fun k hk => Nat.lt_succ_of_lt (h.2 k hk)⟩
  · rw [List.pairwise_append]
    exact ⟨h.1, by simp, fun a ha b hb => by rw [List.mem_singleton.mp hb]; exact h.2 a ha⟩
  · rcases List.mem_append.mp hk with hk | hk
    · exact Nat.lt_succ_of_lt (h.2 k hk)
    · rw [List.mem_singleton.mp hk]; exact Nat.lt_succ_self _
theorem ok_cells {f : Addr} {fd : FuncData} {k : Nat} (F : Fun K "_law_some_cells" "_law_some_cells" s_law_some_cells f fd) (z_range : mg "range" = none) (C_law_draw : Cal P w K mg base 1 "_law_draw" spDraw []) (hk : 1 ≤ k) : FnOk P w K mg base CX0 (k + 1) f fd ["pool", "cells"] spCells := by
  have sc := sc_law_some_cells
  refine F.ok sc (fun vs H Q E h => ?_) (fun cdv A outer s H vs Q E hr h => ?_)
  · obtain ⟨p, q0, c, rfl, _⟩ := h
    rfl
  · obtain ⟨p, q0, c, rfl, h3, x, q⟩ := h
    refine ⟨_, (pss_one (ps_ret (pe_lc (own := [("cell", 2)]) (by rfl) sc.nd (pi_list (pe_lc (own := [("k", 3)]) (by rfl) sc.nd (pi_range1 (by rfl) z_range (pa_cons (pv 1) pa_nil)) (blkOk_by (own := [("k", 3)]) (N := ["pool", "cells", "cell", "k"]) (sc := defScope s_law_some_cells) (by decide +kernel)) (fun _ _ _ _ _ => (pg_name (i := 3) sc.nd rfl (by first | exact Or.inl rfl | exact Or.inr rfl))) (fun _ _ _ _ _ => pts_nil) (fun _ _ _ _ _ => (pv 3)))) (blkOk_by (own := [("cell", 2)]) (N := ["pool", "cells", "cell", "k"]) (sc := defScope s_law_some_cells) (by decide +kernel)) (fun _ _ _ _ _ => (pg_name (i := 2) sc.nd rfl (by first | exact Or.inl rfl | exact Or.inr rfl))) (fun _ _ _ _ _ => (pts_one (pt_cmpR op_eq (pe_c C_law_draw hr (by omega) (by rfl) (pa_cons (pv 0) (pa_cons pe_int pa_nil))) pe_int (nomark _)))) (fun _ _ _ _ _ => (pv 2))))), ?_⟩
    refine s_retR (lc_new (el_rng (n := c) (fun i => .int (i : Int)) (ea_cons (ev_var rfl) ea_nil) (by omega) (fun _ => rfl) (fun i H1 e1 hi => ev_var rfl)) fun L H1 nL e1 hL D nD => ?_)
    have x1 := x.ex e1
    have Dp1 : D ≠ p := new_ne nD x1.isP
    have Dq1 : D ≠ q0 := new_ne nD x1.isQ
    have DL : L ≠ D := ne_of_none hL nD
    have Lp : L ≠ p := new_ne nL x.isP
    refine lc_list (xs := (List.range c).map fun (i : Nat) => V.int (i : Int)) (fun i H' => ∃ cs : List Nat, asc i cs ∧ cs.length ≤ i ∧ Oth p H1 H' ∧ Pool H' p q0 ∧ H' D = some (.lst ((cs.map (Nat.cast : Nat → Int)).map V.int)))
      ⟨[], ⟨.nil, fun _ h => (nomatch h)⟩, Nat.le_refl _, .of (Ex.new nD), x1.ex (Ex.new nD), upd_same⟩ (fun i H' _ hP => ?_) (fun i v H' hi hP => ?_) (fun H' hP => ?_)
    · obtain ⟨cs, _, _, o, _⟩ := hP
      exact sq_of (o _ _ Lp hL)
    · obtain ⟨cs, ha, hlen, o, x2, hD⟩ := hP
      have hic : i < c := by
        have := (List.getElem?_eq_some_iff.mp hi).1
        rw [List.length_map, List.length_range] at this
        exact this
      rw [List.getElem?_map, List.getElem?_range hic] at hi
      have hv : V.int (i : Int) = v := Option.some.inj hi
      subst hv
      show wipe ((wipe _ _).set 2 (some (.int (i : Int)))) _ = wipe _ _ ∧ _
      refine ⟨rfl, .ref p, rfl, p, q0, 2, rfl, by decide, by decide, x2, fun z H3 z0 z1 o3 x3 => ?_⟩
      refine ⟨rfl, _, rfl, ite2 (fun _ => ?_) (fun _ => ?_)⟩
      · refine ⟨.int (i : Int), rfl, _, o3 _ _ Dp1 hD, ?_, cs ++ [i], (asc_step ha).1, by simp; omega, fun a u na hu => ?_, x3.upd Dp1 Dq1, ?_⟩
        · rw [List.length_map, List.length_map]; exact sz_lt (by omega)
        · rw [upd_ne (ne_of_none hu nD)]
          exact o3 _ _ na (o _ _ na hu)
        · rw [upd_same, List.map_append, List.map_append]; rfl
      · exact ⟨cs, (asc_step ha).2, by omega, o.trans o3, x3, o3 _ _ Dp1 hD⟩
    · obtain ⟨cs, ha, hlen, o, x2, hD⟩ := hP
      rw [List.length_map, List.length_range] at ha
      exact q cs D H' ha (fresh_back e1 nD) ((Oth.of e1).trans o) x2 hD
end
abbrev s_law_block : Stmt := topS 41
theorem sc_law_block : FnScope ["pool", "world", "tier", "most", "found", "k"] ["pool", "world", "tier", "most"] (defScope s_law_block) := ⟨rfl, rfl, rfl, by decide +kernel, rfl, by decide +kernel, by decide +kernel⟩
abbrev s_law_statement : Stmt := topS 42
theorem sc_law_statement : FnScope ["pool", "world", "tier", "kind", "cells", "procedure", "row", "first", "kept"] ["pool", "world", "tier"] (defScope s_law_statement) := ⟨rfl, rfl, rfl, by decide +kernel, rfl, by decide +kernel, by decide +kernel⟩
abbrev s_law_body : Stmt := topS 43
theorem sc_law_body : FnScope ["pool", "cells", "many", "room", "tier", "world", "body"] ["pool", "cells", "many", "room", "tier"] (defScope s_law_body) := ⟨rfl, rfl, rfl, by decide +kernel, rfl, by decide +kernel, by decide +kernel⟩
abbrev s_law_bodies : Stmt := topS 44
theorem sc_law_bodies : FnScope ["pool", "cells", "many", "room", "k"] ["pool", "cells", "many", "room"] (defScope s_law_bodies) := ⟨rfl, rfl, rfl, by decide +kernel, rfl, by decide +kernel, by decide +kernel⟩
section
variable {P : Program} {w : World} {K : PySem.W.Frag} {mg : Str → Option Value} {base : Heap}
/-- a statement at the level t -/
def spStmt (t : Nat) : Sp := fun vs H Q _ => ∃ (p q wd : Addr) (c m room : Nat), vs = [.ref p, .ref wd, .int (t : Int)] ∧ t ≤ 3 ∧ 1 ≤ c ∧ c ≤ 3 ∧ 1 ≤ m ∧ m ≤ 3 ∧ Pool H p q ∧ World3 H wd q c m room ∧
  ∀ (s : Stm) (v : V) (room' : Nat) (H' : Hp), okS c m s t → room' + cnt s = room + 1 → Oth2 p wd H H' → Pool H' p q → World3 H' wd q c m room' → Dq (New H) H' v (toD s) → Q v H'
/-- a block at the level t -/
def spBlk (t : Nat) : Sp := fun vs H Q _ => ∃ (p q wd : Addr) (c m room most : Nat), vs = [.ref p, .ref wd, .int (t : Int), .int (most : Int)] ∧ t ≤ 3 ∧ most ≤ 3 ∧ 1 ≤ c ∧ c ≤ 3 ∧ 1 ≤ m ∧ m ≤ 3 ∧ Pool H p q ∧ World3 H wd q c m room ∧
  ∀ (b : List Stm) (v : V) (room' : Nat) (H' : Hp), okL c m b t → b.length ≤ most → room' + cntL b = room → Oth2 p wd H H' → Pool H' p q → World3 H' wd q c m room' → Dq (New H) H' v (.list (toDs b)) → Q v H'
theorem ev_w {σ : L2.St} {H : Hp} {wd q : Addr} {c m room : Nat} {te : TE} (h : Ev te σ H (.ref wd)) (x : World3 H wd q c m room) : Ev (tOp (rIxL K) te (tC (.int 2))) σ H (.int (room : Int)) ∧ Ev (tOp (rIxL K) te (tC (.int 0))) σ H (.int (c : Int)) ∧ Ev (tOp (rIxL K) te (tC (.int 1))) σ H (.int (m : Int)) :=
  ⟨ev_op h ev_c (rv_ixL (sq_of x.hw) (atI_nat (j := 2) rfl)), ev_op h ev_c (rv_ixL (sq_of x.hw) (atI_nat (j := 0) rfl)), ev_op h ev_c (rv_ixL (sq_of x.hw) (atI_nat (j := 1) rfl))⟩
theorem pool_isW {H : Hp} {wd q : Addr} {c m room : Nat} (x : World3 H wd q c m room) : ∃ u, H wd = some u := ⟨_, x.hw⟩
theorem ok_block {f : Addr} {fd : FuncData} {k t : Nat} (F : Fun K "_law_block" "_law_block" s_law_block f fd) (z_range : mg "range" = none) (C_law_draw : Cal P w K mg base 1 "_law_draw" spDraw []) (C_law_statement : Cal P w K mg base k "_law_statement" (spStmt t) []) (hk : 1 ≤ k) :
    FnOk P w K mg base CX0 (k + 1) f fd ["pool", "world", "tier", "most"] (spBlk t) := by
  have sc := sc_law_block
  refine F.ok sc (fun vs H Q E h => ?_) (fun cdv A outer s H vs Q E hr h => ?_)
  · obtain ⟨p, q0, wd, c, m, room, most, rfl, _⟩ := h
    rfl
  · obtain ⟨p, q0, wd, c, m, room, most, rfl, ht, hmost, c1, c3, m1, m3, x, W, q⟩ := h
    refine ⟨_, (pss_cons (ps_set (i := 4) sc.nd rfl (by first | exact Or.inl rfl | exact Or.inr rfl) (pe_lst pa_nil))
      (pss_cons (ps_for PassesOwn.never rfl (pi_range1 (by rfl) z_range (pa_cons (pe_c C_law_draw hr (by omega) (by rfl) (pa_cons (pv 0) (pa_cons (pe_op op_add (pv 3) pe_int) pa_nil))) pa_nil)) (pg_name (i := 5) sc.nd rfl (by first | exact Or.inl rfl | exact Or.inr rfl))
      (pss_one (ps_if (pt_cmpR op_gt (pe_ix ix_list (pv 1) pe_int (fun _ _ => rfl)) pe_int (nomark _))
      (pss_cons (ps_asg (pe_op op_sub (pe_ix ix_list (pv 1) pe_int (fun _ _ => rfl)) pe_int) (pg_sub (pv 1) pe_int set_list))
      (pss_one (ps_expr (pe_bm PySem.F.plainAttrs_list PySem.F.slot_list_append PySem.F.type_list_append mt_append (pv 4) (pa_cons (pe_c C_law_statement hr (by omega) (by rfl) (pa_cons (pv 0) (pa_cons (pv 1) (pa_cons (pv 2) pa_nil)))) pa_nil)))))
      pss_nil)))
      (pss_one (ps_ret (pv 4))))), ?_⟩
    refine q_asgL (el_lst ea_nil (by decide)) fun F0 H1 nF e1 hF => ?_
    have x1 := x.ex e1
    have W1 := W.ex e1
    have Fp : F0 ≠ p := new_ne nF x.isP
    have Fq : F0 ≠ q0 := new_ne nF x.isQ
    have Fw : F0 ≠ wd := new_ne nF (pool_isW W)
    -- the loop's length is drawn
    refine ⟨.ref p, rfl, .int (most : Int), rfl, (most : Int), 1, rfl, rfl, p, q0, (most : Int) + 1, rfl, by omega, Nat.lt_of_le_of_lt (show ((most : Int) + 1).natAbs ≤ 4 by omega) (by decide), x1, fun z H2 z0 z1 o2 x2 => ⟨z, rfl, by omega, by omega, ?_⟩⟩
    have e12 : Oth2 p wd H H2 := (Oth2.of e1).trans (.one o2)
    refine for_range (lo := 0) (n := z.toNat) (g := gName 5) (D := { nx := tRet (tVar 4) { nx := fun _ H' => Q .non H', rt := Q }, rt := Q }) (fun i σ' H' => ∃ (b : List Stm) (y5 : Option V) (room' : Nat) (xs : List V), σ' = [some (.ref p), some (.ref wd), some (.int (t : Int)), some (.int (most : Int)), some (.ref F0), y5] ∧ okL c m b t ∧ b.length ≤ i ∧ room' + cntL b = room ∧ Oth2 p wd H H' ∧ Pool H' p q0 ∧ World3 H' wd q0 c m room' ∧ H' F0 = some (.lst xs) ∧ DqAll (fun a => New H a ∧ a ≠ F0) H' xs (toDs b))
      ⟨[], none, room, [], rfl, by rw [okL]; trivial, Nat.le_refl _, by rw [cntL]; rfl, e12, x2, W1.one x1 o2, o2 _ _ Fp hF, by rw [toDs]; exact .nil⟩ (fun i σ' H' hi hP => ?_) (fun σ' H' hP => ?_)
    · obtain ⟨b, y5, room', xs, rfl, hok, hlen, hroom, o, x', W', hF', hd⟩ := hP
      have i4 : i < 4 := by omega
      have lx : xs.length = b.length := by rw [dqa_len hd, toDs_len]
      refine s_when (et_test (ev_op (ev_w (ev_var rfl) W').1 ev_c rv_I0)) (fun hb H3 e3 => ?_) (fun hb H3 e3 => ?_)
      · have hpos : (0 : Int) < (room' : Int) := of_decide_eq_true hb
        obtain ⟨r1, rfl⟩ : ∃ r1, room' = r1 + 1 := ⟨room' - 1, by omega⟩
        have x3 := x'.ex e3
        have W3 := W'.ex e3
        have wp := W3.nep x3
        refine q_setL (j := 2) (v := .int (r1 : Int)) W3.hw (ev_is (ev_op (ev_w (ev_var rfl) W3).1 ev_c rv_I0) (congrArg V.int (by omega))) (ev_var rfl) ev_c (by show 2 < 3; decide) fun H4 e4 => ?_
        have x4 : Pool (upd H4 wd (.lst [.int (c : Int), .int (m : Int), .int (r1 : Int)])) p q0 := (x3.ex e4).upd wp W3.ne
        have W4 : World3 (upd H4 wd (.lst [.int (c : Int), .int (m : Int), .int (r1 : Int)])) wd q0 c m r1 := ⟨upd_same, W3.ne⟩
        have o4 : Oth2 p wd H (upd H4 wd (.lst [.int (c : Int), .int (m : Int), .int (r1 : Int)])) := fun a u n1 n2 ha => by
          rw [upd_ne n2]
          exact e4 _ _ (e3 _ _ (o a u n1 n2 ha))
        have hF4 : (upd H4 wd (.lst [.int (c : Int), .int (m : Int), .int (r1 : Int)])) F0 = some (.lst xs) := by
          rw [upd_ne Fw]
          exact e4 _ _ (e3 _ _ hF')
        have hd4 : DqAll (fun a => New H a ∧ a ≠ F0) (upd H4 wd (.lst [.int (c : Int), .int (m : Int), .int (r1 : Int)])) xs (toDs b) := dqa_to (fun _ h => h) (fun a u n ha => by
          rw [upd_ne (new_ne n.1 (pool_isW W))]
          exact e4 _ _ (e3 _ _ ha)) _ _ hd
        refine ⟨.ref F0, rfl, .inl ⟨rfl, _, sq_of hF4⟩, .ref p, rfl, .ref wd, rfl, .int (t : Int), rfl, p, q0, wd, c, m, r1, rfl, ht, c1, c3, m1, m3, x4, W4, fun s v r2 H6 oks hc o6 x6 W6 dq => ?_⟩
        have hF6 := o6 _ _ Fp Fw hF4
        refine ⟨F0, xs, v, rfl, rfl, hF6, sz_lt (by omega), b ++ [s], _, r2, xs ++ [v], rfl, okL_app hok (by rw [okL, okL]; exact ⟨oks, trivial⟩), by simp; omega, ?_, fun a u n1 n2 ha => ?_, x6.upd Fp Fq, ⟨by rw [upd_ne Fw.symm]; exact W6.hw, W6.ne⟩, upd_same, ?_⟩
        · rw [cntL_app, cntL, cntL]; omega
        · rw [upd_ne (ne_of_none ha nF)]
          exact o6 _ _ n1 n2 (o4 _ _ n1 n2 ha)
        · rw [toDs_app]
          refine dqa_app (dqa_to (fun _ h => h) (fun a u n ha => ?_) _ _ hd4) ?_
          · rw [upd_ne n.2]
            exact o6 _ _ (new_ne n.1 x.isP) (new_ne n.1 (pool_isW W)) ha
          · rw [toDs, toDs]
            exact .cons (dq_to (fun a n => ⟨new_back2 o4 x4.isP (pool_isW W4) n, new_ne n ⟨_, hF4⟩⟩) (fun a u n ha => by rw [upd_ne (new_ne n ⟨_, hF4⟩)]; exact ha) _ _ dq) .nil
      · exact ⟨b, _, room', xs, rfl, hok, by omega, hroom, o.trans (.of e3), x'.ex e3, W'.ex e3, e3 _ _ hF', dqa_to (fun _ h => h) (fun a u n ha => e3 _ _ ha) _ _ hd⟩
    · obtain ⟨b, y5, room', xs, rfl, hok, hlen, hroom, o, x', W', hF', hd⟩ := hP
      refine s_ret (ev_var rfl) fun H3 e3 => q b (.ref F0) room' H3 hok (by omega) hroom (o.trans (.of e3)) (x'.ex e3) (W'.ex e3) (.lst nF (e3 _ _ hF') (dqa_to (fun _ h => h.1) (fun a u n ha => e3 _ _ ha) _ _ hd))
theorem dq_later {p wd : Addr} {H Hk H' H'' : Hp} {v : V} {d : PyData} (hp : ∃ u, Hk p = some u) (hw : ∃ u, Hk wd = some u) (o0 : Oth2 p wd H Hk) (o : Oth2 p wd H' H'') (x : Dq (New Hk) H' v d) : Dq (New H) H'' v d :=
  dq_to (fun _ n => new_back2 o0 hp hw n) (fun a u n ha => o _ _ (new_ne n hp) (new_ne n hw) ha) _ _ x
theorem new_later {p wd : Addr} {H Hk : Hp} {a : Addr} (hp : ∃ u, Hk p = some u) (hw : ∃ u, Hk wd = some u) (o0 : Oth2 p wd H Hk) (n : Hk a = none) : New H a := new_back2 o0 hp hw n
theorem ok_statement {f : Addr} {fd : FuncData} {k t : Nat} (F : Fun K "_law_statement" "_law_statement" s_law_statement f fd) (C_law_draw : Cal P w K mg base 1 "_law_draw" spDraw []) (C_law_row : Cal P w K mg base 2 "_law_row" spRow []) (C_law_command : Cal P w K mg base 3 "_law_command" spCmd [])
    (C_law_some_cells : Cal P w K mg base 2 "_law_some_cells" spCells []) (C_law_block : Cal P w K mg base k "_law_block" (spBlk (t + 1)) []) (hk : 3 ≤ k) : FnOk P w K mg base CX0 (k + 1) f fd ["pool", "world", "tier"] (spStmt t) := by
  have sc := sc_law_statement
  refine F.ok sc (fun vs H Q E h => ?_) (fun cdv A outer s H vs Q E hr h => ?_)
  · obtain ⟨p, q0, wd, c, m, room, rfl, _⟩ := h
    rfl
  · obtain ⟨p, q0, wd, c, m, room, rfl, ht, c1, c3, m1, m3, x, W, q⟩ := h
    refine ⟨_, (pss_cons (ps_set (i := 3) sc.nd rfl (by first | exact Or.inl rfl | exact Or.inr rfl) (pe_c C_law_draw hr (by omega) (by rfl) (pa_cons (pv 0) (pa_cons pe_int pa_nil))))
      (pss_cons (ps_set (i := 4) sc.nd rfl (by first | exact Or.inl rfl | exact Or.inr rfl) (pe_ix ix_list (pv 1) pe_int (fun _ _ => rfl)))
      (pss_cons (ps_if (pt_cmpR op_eq (pv 3) pe_int (nomark _))
      (pss_one (ps_ret (pe_tup (pa_cons pe_str (pa_cons (pe_c C_law_draw hr (by omega) (by rfl) (pa_cons (pv 0) (pa_cons pe_int pa_nil))) pa_nil)))))
      pss_nil)
      (pss_cons (ps_if (PW.pt (pw_or (pt_cmpR op_lt (pv 3) pe_int (nomark _)) (pw_or1 (pt_cmpR op_gt (pv 2) pe_int (nomark _)))))
      (pss_one (ps_ret (pe_c C_law_command hr (by omega) (by rfl) (pa_cons (pv 0) (pa_cons (pv 4) pa_nil)))))
      pss_nil)
      (pss_cons (ps_if (pt_cmpR op_eq (pv 3) pe_int (nomark _))
      (pss_cons (ps_set (i := 8) sc.nd rfl (by first | exact Or.inl rfl | exact Or.inr rfl) (pe_c C_law_some_cells hr (by omega) (by rfl) (pa_cons (pv 0) (pa_cons (pv 4) pa_nil))))
      (pss_one (ps_ret (pe_tup (pa_cons pe_str (pa_cons (pv 8) (pa_cons (pe_c C_law_block hr (by omega) (by rfl) (pa_cons (pv 0) (pa_cons (pv 1) (pa_cons (pe_op op_add (pv 2) pe_int) (pa_cons pe_int pa_nil))))) pa_nil)))))))
      pss_nil)
      (pss_cons (ps_if (pt_cmpR op_eq (pv 3) pe_int (nomark _))
      (pss_cons (ps_set (i := 7) sc.nd rfl (by first | exact Or.inl rfl | exact Or.inr rfl) (pe_c C_law_block hr (by omega) (by rfl) (pa_cons (pv 0) (pa_cons (pv 1) (pa_cons (pe_op op_add (pv 2) pe_int) (pa_cons pe_int pa_nil))))))
      (pss_one (ps_ret (pe_tup (pa_cons pe_str (pa_cons (pv 7) (pa_cons (pe_c C_law_block hr (by omega) (by rfl) (pa_cons (pv 0) (pa_cons (pv 1) (pa_cons (pe_op op_add (pv 2) pe_int) (pa_cons pe_int pa_nil))))) pa_nil)))))))
      pss_nil)
      (pss_cons (ps_if (pt_cmpR op_eq (pv 3) pe_int (nomark _))
      (pss_one (ps_ret (pe_tup (pa_cons pe_str (pa_cons (pe_c C_law_block hr (by omega) (by rfl) (pa_cons (pv 0) (pa_cons (pv 1) (pa_cons (pe_op op_add (pv 2) pe_int) (pa_cons pe_int pa_nil))))) pa_nil)))))
      pss_nil)
      (pss_cons (ps_set (i := 5) sc.nd rfl (by first | exact Or.inl rfl | exact Or.inr rfl) (pe_c C_law_draw hr (by omega) (by rfl) (pa_cons (pv 0) (pa_cons (pe_ix ix_list (pv 1) pe_int (fun _ _ => rfl)) pa_nil))))
      (pss_cons (ps_set (i := 6) sc.nd rfl (by first | exact Or.inl rfl | exact Or.inr rfl) (pe_c C_law_row hr (by omega) (by rfl) (pa_cons (pv 0) (pa_cons (pv 4) pa_nil))))
      (pss_cons (ps_set (i := 7) sc.nd rfl (by first | exact Or.inl rfl | exact Or.inr rfl) (pe_c C_law_block hr (by omega) (by rfl) (pa_cons (pv 0) (pa_cons (pv 1) (pa_cons (pe_op op_add (pv 2) pe_int) (pa_cons pe_int pa_nil))))))
      (pss_one (ps_ret (pe_tup (pa_cons pe_str (pa_cons (pv 5) (pa_cons (pv 6) (pa_cons (pe_lst (pa_cons (pv 7) (pa_cons (pe_c C_law_block hr (by omega) (by rfl) (pa_cons (pv 0) (pa_cons (pv 1) (pa_cons (pe_op op_add (pv 2) pe_int) (pa_cons pe_int pa_nil))))) pa_nil))) pa_nil))))))))))))))))), ?_⟩
    refine q_run ?_
    refine ⟨.ref p, rfl, p, q0, 10, rfl, by decide, by decide, x, fun kind H1 k0 k10 o1 x1 => ?_⟩
    have W1 := W.one x o1
    refine q_asg (ev_w (ev_var rfl) W1).2.1 fun H2 e2 => ?_
    have x2 := x1.ex e2
    have W2 := W1.ex e2
    have o2 : Oth2 p wd H H2 := (Oth2.one o1).trans (.of e2)
    -- end
    refine q_when (et_test (ev_op (ev_var rfl) ev_c (rv_eq rfl))) (fun _ H3 e3 => ?_) (fun hk4 H3 e3 => ?_)
    · have x3 := x2.ex e3
      have W3 := W2.ex e3
      refine ⟨.ref p, rfl, p, q0, 2, rfl, by decide, by decide, x3, fun z H4 z0 z1 o4 x4 => ⟨by show 2 ≤ sizeLine; decide, fun T nT => ?_⟩⟩
      have o34 : Oth2 p wd H H4 := (o2.trans (.of e3)).trans (.one o4)
      have W4 := W3.one x3 o4
      obtain ⟨zz, rfl⟩ : ∃ zz : Nat, z = (zz : Int) := ⟨z.toNat, by omega⟩
      refine q (.fin zz) _ room _ (by rw [okS]; omega) (by rw [cnt]) (o34.trans (.of (Ex.new nT))) (x4.ex (Ex.new nT)) (W4.ex (Ex.new nT)) ?_
      rw [toD]
      exact .tup (new_later x4.isP (pool_isW W4) o34 nT) upd_same (.cons (.str _) (.cons (.int _) .nil))
    have x3 := x2.ex e3
    have W3 := W2.ex e3
    have o3 := o2.trans (.of e3)
    -- a command
    refine q_when (et_or (et_test (ev_op (ev_var rfl) ev_c rv_I0)) fun _ => et_test (ev_op (ev_var rfl) ev_c rv_I0)) (fun _ H4 e4 => ?_) (fun hkt H4 e4 => ?_)
    · have x4 := x3.ex e4
      have W4 := W3.ex e4
      have o4 := o3.trans (.of e4)
      refine ⟨.ref p, rfl, .int (c : Int), rfl, p, q0, c, rfl, c1, c3, x4, fun s v H5 hs o5 x5 dq => ?_⟩
      exact q s v room H5 (isCmd_ok hs).1 (by rw [(isCmd_ok (m := m) (lv := t) hs).2]) (o4.trans (.one o5)) x5 (W4.one x4 o5) (dq_to (fun a n => new_later x4.isP (pool_isW W4) o4 n) (fun _ _ _ h => h) _ _ dq)
    have x4 := x3.ex e4
    have W4 := W3.ex e4
    have o4 := o3.trans (.of e4)
    have ht2 : t ≤ 2 := by
      have := (Bool.or_eq_false_iff.mp hkt).2
      have := of_decide_eq_false this
      omega
    have ht3 : t + 1 ≤ 3 := by omega
    have lt3 : t < 3 := by omega
    -- keep
    refine q_when (et_test (ev_op (ev_var rfl) ev_c (rv_eq rfl))) (fun _ H5 e5 => ?_) (fun hk5 H5 e5 => ?_)
    · have x5 := x4.ex e5
      have W5 := W4.ex e5
      have o5 := o4.trans (.of e5)
      refine q_run ?_
      refine ⟨.ref p, rfl, .int (c : Int), rfl, p, q0, c, rfl, c3, x5, fun cs L H6 hcs nL o6 x6 hL => ?_⟩
      have W6 := W5.one x5 o6
      have o56 := o5.trans (.one o6)
      have nL0 : New H L := new_later x5.isP (pool_isW W5) o5 nL
      refine ⟨.ref L, rfl, .ref p, rfl, .ref wd, rfl, .int (t : Int), rfl, (t : Int), 1, rfl, rfl, p, q0, wd, c, m, room, 3, rfl, ht3, by omega, c1, c3, m1, m3, x6, W6, fun b v r7 H7 hb hlb hc o7 x7 W7 dq => ⟨by show 3 ≤ sizeLine; decide, fun T nT => ?_⟩⟩
      have o8 := o56.trans o7
      have eT := Ex.new (o := .tup [.str "keep", .ref L, v]) nT
      refine q (.keep cs b) _ r7 _ (by rw [okS]; exact ⟨lt3, hcs, by omega, hb⟩) (by rw [cnt]; omega) (o8.trans (.of eT)) (x7.ex eT) (W7.ex eT) ?_
      rw [toD]
      exact .tup (new_later x7.isP (pool_isW W7) o8 nT) upd_same (.cons (.str _) (.cons (dq_LI nL0 (eT _ _ (o7 _ _ (new_ne nL0 x.isP) (new_ne nL0 (pool_isW W)) hL))) (.cons (dq_later x6.isP (pool_isW W6) o56 (.of eT) dq) .nil)))
    have x5 := x4.ex e5
    have W5 := W4.ex e5
    have o5 := o4.trans (.of e5)
    -- either
    refine q_when (et_test (ev_op (ev_var rfl) ev_c (rv_eq rfl))) (fun _ H6 e6 => ?_) (fun hk6 H6 e6 => ?_)
    · have x6 := x5.ex e6
      have W6 := W5.ex e6
      have o6 := o5.trans (.of e6)
      refine q_run ?_
      refine ⟨.ref p, rfl, .ref wd, rfl, .int (t : Int), rfl, (t : Int), 1, rfl, rfl, p, q0, wd, c, m, room, 3, rfl, ht3, by omega, c1, c3, m1, m3, x6, W6, fun a va r7 H7 ha hla hca o7 x7 W7 dqa => ?_⟩
      have o67 := o6.trans o7
      refine ⟨va, rfl, .ref p, rfl, .ref wd, rfl, .int (t : Int), rfl, (t : Int), 1, rfl, rfl, p, q0, wd, c, m, r7, 3, rfl, ht3, by omega, c1, c3, m1, m3, x7, W7, fun b vb r8 H8 hb hlb hcb o8 x8 W8 dqb => ⟨by show 3 ≤ sizeLine; decide, fun T nT => ?_⟩⟩
      have o68 := o67.trans o8
      have eT := Ex.new (o := .tup [.str "either", va, vb]) nT
      refine q (.either a b) _ r8 _ (by rw [okS]; exact ⟨lt3, by omega, ha, by omega, hb⟩) (by rw [cnt]; omega) (o68.trans (.of eT)) (x8.ex eT) (W8.ex eT) ?_
      rw [toD]
      exact .tup (new_later x8.isP (pool_isW W8) o68 nT) upd_same (.cons (.str _) (.cons (dq_later x6.isP (pool_isW W6) o6 (o8.trans (.of eT)) dqa) (.cons (dq_later x7.isP (pool_isW W7) o67 (.of eT) dqb) .nil)))
    have x6 := x5.ex e6
    have W6 := W5.ex e6
    have o6 := o5.trans (.of e6)
    -- again
    refine q_when (et_test (ev_op (ev_var rfl) ev_c (rv_eq rfl))) (fun _ H7 e7 => ?_) (fun hk7 H7 e7 => ?_)
    · have x7 := x6.ex e7
      have W7 := W6.ex e7
      have o7 := o6.trans (.of e7)
      refine ⟨.ref p, rfl, .ref wd, rfl, .int (t : Int), rfl, (t : Int), 1, rfl, rfl, p, q0, wd, c, m, room, 3, rfl, ht3, by omega, c1, c3, m1, m3, x7, W7, fun b v r8 H8 hb hlb hc o8 x8 W8 dq => ⟨by show 2 ≤ sizeLine; decide, fun T nT => ?_⟩⟩
      have o78 := o7.trans o8
      have eT := Ex.new (o := .tup [.str "again", v]) nT
      refine q (.again b) _ r8 _ (by rw [okS]; exact ⟨lt3, by omega, hb⟩) (by rw [cnt]; omega) (o78.trans (.of eT)) (x8.ex eT) (W8.ex eT) ?_
      rw [toD]
      exact .tup (new_later x8.isP (pool_isW W8) o78 nT) upd_same (.cons (.str _) (.cons (dq_later x7.isP (pool_isW W7) o7 (.of eT) dq) .nil))
    have x7 := x6.ex e7
    have W7 := W6.ex e7
    have o7 := o6.trans (.of e7)
    -- call
    refine q_run ?_
    refine ⟨.ref p, rfl, .ref wd, rfl, wd, _, 1, .int (m : Int), rfl, rfl, sq_of W7.hw, atI_nat (j := 1) rfl, p, q0, (m : Int), rfl, by omega, Nat.lt_of_le_of_lt (show (m : Int).natAbs ≤ 4 by omega) (by decide), x7, fun pr H8 p0 pm o8 x8 => ?_⟩
    have W8 := W7.one x7 o8
    have o78 := o7.trans (.one o8)
    refine q_run ?_
    refine ⟨.ref p, rfl, .int (c : Int), rfl, p, q0, c, rfl, c3, x8, fun r L H9 hrr nL o9 x9 hL => ?_⟩
    have W9 := W8.one x8 o9
    have o79 := o78.trans (.one o9)
    have nL0 : New H L := new_later x8.isP (pool_isW W8) o78 nL
    refine q_run ?_
    refine ⟨.ref p, rfl, .ref wd, rfl, .int (t : Int), rfl, (t : Int), 1, rfl, rfl, p, q0, wd, c, m, room, 2, rfl, ht3, by omega, c1, c3, m1, m3, x9, W9, fun a va r10 H10 ha hla hca o10 x10 W10 dqa => ?_⟩
    have o710 := o79.trans o10
    obtain ⟨pp, rfl⟩ : ∃ pp : Nat, pr = (pp : Int) := ⟨pr.toNat, by omega⟩
    refine ⟨.int (pp : Int), rfl, .ref L, rfl, va, rfl, .ref p, rfl, .ref wd, rfl, .int (t : Int), rfl, (t : Int), 1, rfl, rfl, p, q0, wd, c, m, r10, 2, rfl, ht3, by omega, c1, c3, m1, m3, x10, W10, fun b vb r11 H11 hb hlb hcb o11 x11 W11 dqb => ⟨by show 2 ≤ sizeLine; decide, fun B nB => ⟨by show 4 ≤ sizeLine; decide, fun T nT => ?_⟩⟩⟩
    have o711 := o710.trans o11
    have eB := Ex.new (o := .lst [va, vb]) nB
    have eT := Ex.new (o := .tup [.str "call", .int (pp : Int), .ref L, .ref B]) nT
    have eBT := eB.trans eT
    have nB0 : New H B := new_later x11.isP (pool_isW W11) o711 nB
    refine q (.call pp r a b) _ r11 _ (by rw [okS]; exact ⟨lt3, by omega, hrr, by omega, ha, by omega, hb⟩) (by rw [cnt]; omega) (o711.trans (.of eBT)) (x11.ex eBT) (W11.ex eBT) ?_
    rw [toD]
    refine .tup (new_later (x11.ex eB).isP (pool_isW (W11.ex eB)) (o711.trans (.of eB)) nT) upd_same (.cons (.str _) (.cons (.int _) (.cons (dq_LI nL0 (eBT _ _ (o11 _ _ (new_ne nL0 x.isP) (new_ne nL0 (pool_isW W)) (o10 _ _ (new_ne nL0 x.isP) (new_ne nL0 (pool_isW W)) hL)))) (.cons ?_ .nil))))
    exact .lst nB0 (eT _ _ upd_same) (.cons (dq_later x9.isP (pool_isW W9) o79 (o11.trans (.of eBT)) dqa) (.cons (dq_later x10.isP (pool_isW W10) o710 (.of eBT) dqb) .nil))
end
section
variable {P : Program} {w : World} {K : PySem.W.Frag} {mg : Str → Option Value} {base : Heap}
/-- statements and blocks at every level -/
theorem gen_levels {fS fB : Addr} {fdS fdB : FuncData} (FS : Fun K "_law_statement" "_law_statement" s_law_statement fS fdS) (FB : Fun K "_law_block" "_law_block" s_law_block fB fdB) (gS : mg "_law_statement" = some (.ref fS)) (gB : mg "_law_block" = some (.ref fB))
    (bS : Binds K fdS ["pool", "world", "tier"] []) (bB : Binds K fdB ["pool", "world", "tier", "most"] []) (z_range : mg "range" = none) (C_law_draw : Cal P w K mg base 1 "_law_draw" spDraw []) (C_law_row : Cal P w K mg base 2 "_law_row" spRow []) (C_law_command : Cal P w K mg base 3 "_law_command" spCmd [])
    (C_law_some_cells : Cal P w K mg base 2 "_law_some_cells" spCells []) : ∀ j t, j + t = 4 → Cal P w K mg base (3 + 2 * j) "_law_block" (spBlk t) [] ∧ ∀ t', t' + 1 = t → Cal P w K mg base (3 + 2 * j + 1) "_law_statement" (spStmt t') []
  | 0, t, h => by
    have e : t = 4 := by omega
    subst e
    have B : Cal P w K mg base (3 + 2 * 0) "_law_block" (spBlk 4) [] := ⟨fB, fdB, ["pool", "world", "tier", "most"], [], ⟨fun _ _ _ _ h => by obtain ⟨_, _, _, _, _, _, _, _, h, _⟩ := h; omega, fun _ _ _ _ _ _ _ _ _ _ _ _ _ h => by obtain ⟨_, _, _, _, _, _, _, _, h, _⟩ := h; omega⟩, gB, FB.kp, bB, .nil⟩
    refine ⟨B, fun t' e => ?_⟩
    have : t' = 3 := by omega
    subst this
    exact ⟨fS, fdS, _, [], ok_statement FS C_law_draw C_law_row C_law_command C_law_some_cells B (by decide), gS, FS.kp, bS, .nil⟩
  | j + 1, t, h => by
    obtain ⟨_, hS⟩ := gen_levels FS FB gS gB bS bB z_range C_law_draw C_law_row C_law_command C_law_some_cells j (t + 1) (by omega)
    have S := hS t rfl
    have B : Cal P w K mg base (3 + 2 * (j + 1)) "_law_block" (spBlk t) [] := ⟨fB, fdB, _, [], ok_block (k := 3 + 2 * j + 1) FB z_range C_law_draw S (by omega), gB, FB.kp, bB, .nil⟩
    refine ⟨B, fun t' e => ?_⟩
    subst e
    exact ⟨fS, fdS, _, [], ok_statement FS C_law_draw C_law_row C_law_command C_law_some_cells B (by omega), gS, FS.kp, bS, .nil⟩
/-- the body of a procedure -/
def okB (c m : Nat) (b : List Stm) : Prop := okL c m b 0 ∧ b.length ≤ 8 ∧ cntL b ≤ 12
def bD (b : List Stm) : PyData := .list (toDs b)
def spBody : Sp := fun vs H Q _ => ∃ (p q : Addr) (c m : Nat), vs = [.ref p, .int (c : Int), .int (m : Int), .int 12, .int 0] ∧ 1 ≤ c ∧ c ≤ 3 ∧ 1 ≤ m ∧ m ≤ 3 ∧ Pool H p q ∧
  ∀ (b : List Stm) (v : V) (H' : Hp), okB c m b → b.length ≤ 4 → Oth p H H' → Pool H' p q → Dq (New H) H' v (bD b) → Q v H'
theorem ok_body {f : Addr} {fd : FuncData} {k : Nat} (F : Fun K "_law_body" "_law_body" s_law_body f fd) (C_law_statement : Cal P w K mg base 10 "_law_statement" (spStmt 0) []) (C_law_block : Cal P w K mg base 11 "_law_block" (spBlk 0) []) (hk : 11 ≤ k) :
    FnOk P w K mg base CX0 (k + 1) f fd ["pool", "cells", "many", "room", "tier"] spBody := by
  have sc := sc_law_body
  refine F.ok sc (fun vs H Q E h => ?_) (fun cdv A outer s H vs Q E hr h => ?_)
  · obtain ⟨p, q0, c, m, rfl, _⟩ := h
    rfl
  · obtain ⟨p, q0, c, m, rfl, c1, c3, m1, m3, x, q⟩ := h
    refine ⟨_, (pss_cons (ps_set (i := 5) sc.nd rfl (by first | exact Or.inl rfl | exact Or.inr rfl) (pe_lst (pa_cons (pv 1) (pa_cons (pv 2) (pa_cons (pe_op op_sub (pv 3) pe_int) pa_nil)))))
      (pss_cons (ps_set (i := 6) sc.nd rfl (by first | exact Or.inl rfl | exact Or.inr rfl) (pe_lst (pa_cons (pe_c C_law_statement hr (by omega) (by rfl) (pa_cons (pv 0) (pa_cons (pv 5) (pa_cons (pv 4) pa_nil)))) pa_nil)))
      (pss_one (ps_ret (pe_op op_cat (pv 6) (pe_c C_law_block hr (by omega) (by rfl) (pa_cons (pv 0) (pa_cons (pv 5) (pa_cons (pv 4) (pa_cons pe_int pa_nil)))))))))), ?_⟩
    refine q_asgL (el_lst (ea_cons (ev_var rfl) (ea_cons (ev_var rfl) (ea_cons (ev_op (ev_var rfl) ev_c rv_I0) ea_nil))) (by show 3 ≤ 100000; decide)) fun wd H1 nw e1 hw => ?_
    have x1 := x.ex e1
    have W1 : World3 H1 wd q0 c m 11 := ⟨hw, new_ne nw x.isQ⟩
    have wp : wd ≠ p := new_ne nw x.isP
    have o1 : Oth2 p wd H H1 := .of e1
    -- body = [statement]
    refine q_run ?_
    refine ⟨.ref p, rfl, .ref wd, rfl, .int 0, rfl, p, q0, wd, c, m, 11, rfl, by decide, c1, c3, m1, m3, x1, W1, fun s v r2 H2 oks hc o2 x2 W2 dq => ⟨by show 1 ≤ sizeLine; decide, fun B nB => ?_⟩⟩
    have o12 := o1.trans o2
    have eB := Ex.new (o := .lst [v]) nB
    have x3 := x2.ex eB
    have W3 := W2.ex eB
    have o13 := o12.trans (.of eB)
    have nB0 : New H B := new_later x2.isP (pool_isW W2) o12 nB
    refine ⟨.ref B, rfl, .ref p, rfl, .ref wd, rfl, .int 0, rfl, p, q0, wd, c, m, r2, 3, rfl, by decide, by decide, c1, c3, m1, m3, x3, W3, fun b vb r4 H4 hb hlb hcb o4 x4 W4 dqb => ?_⟩
    have hB4 := o4 _ _ (new_ne nB0 x.isP) (new_ne nB ⟨_, W2.hw⟩) upd_same
    have dq4 : Dq (New H) H4 v (toD s) := dq_later x1.isP (pool_isW W1) o1 ((Oth2.of eB).trans o4) dq
    cases dqb with
    | @lst L xs ds nL hL hds =>
      have lxs : xs.length = b.length := by rw [dqa_len hds, toDs_len]
      refine ⟨B, L, [v], xs, rfl, rfl, hB4, hL, ?_, fun R nR => ?_⟩
      · have := small1000 (n := [v].length + xs.length) (by rw [lxs, List.length_singleton]; omega)
        exact Nat.le_of_lt this
      · have eR := Ex.new (o := .lst ([v] ++ xs)) nR
        have o14 := o13.trans o4
        have nR0 : New H R := new_later x4.isP (pool_isW W4) o14 nR
        refine q (s :: b) _ _ ⟨by rw [okL]; exact ⟨oks, hb⟩, by rw [List.length_cons]; omega, by rw [cntL]; omega⟩ (by rw [List.length_cons]; omega) (fun a u na ha => ?_) (x4.ex eR) ?_
        · exact eR _ _ (o14 _ _ na (ne_of_none ha nw) ha)
        · rw [bD, toDs]
          exact .lst nR0 upd_same (.cons (dq_to (fun _ h => h) (fun a u _ ha => eR _ _ ha) _ _ dq4) (dqa_to (fun a n => new_later x3.isP (pool_isW W3) o13 n) (fun a u _ ha => eR _ _ ha) _ _ hds))
def toB (bs : List (List Stm)) : PyData := .list (bs.map bD)
def spBodies : Sp := fun vs H Q _ => ∃ (p q : Addr) (c m : Nat), vs = [.ref p, .int (c : Int), .int (m : Int), .int 12] ∧ 1 ≤ c ∧ c ≤ 3 ∧ 1 ≤ m ∧ m ≤ 3 ∧ Pool H p q ∧
  ∀ (bs : List (List Stm)) (B : Addr) (xs : List V) (H' : Hp), bs.length = m → (∀ b ∈ bs, okB c m b) → Oth p H H' → Pool H' p q → New H B → H' B = some (.lst xs) → DqAll (fun a => New H a ∧ a ≠ B) H' xs (bs.map bD) → Q (.ref B) H'
theorem ok_bodies {f : Addr} {fd : FuncData} {k : Nat} (F : Fun K "_law_bodies" "_law_bodies" s_law_bodies f fd) (z_range : mg "range" = none) (C_law_body : Cal P w K mg base 12 "_law_body" spBody []) (hk : 12 ≤ k) :
    FnOk P w K mg base CX0 (k + 1) f fd ["pool", "cells", "many", "room"] spBodies := by
  have sc := sc_law_bodies
  refine F.ok sc (fun vs H Q E h => ?_) (fun cdv A outer s H vs Q E hr h => ?_)
  · obtain ⟨p, q0, c, m, rfl, _⟩ := h
    rfl
  · obtain ⟨p, q0, c, m, rfl, c1, c3, m1, m3, x, q⟩ := h
    refine ⟨_, (pss_one (ps_ret (pe_lc (own := [("k", 4)]) (by rfl) sc.nd (pi_range1 (by rfl) z_range (pa_cons (pv 2) pa_nil)) (blkOk_by (own := [("k", 4)]) (N := ["pool", "cells", "many", "room", "k"]) (sc := defScope s_law_bodies) (by decide +kernel)) (fun _ _ _ _ _ => (pg_name (i := 4) sc.nd rfl (by first | exact Or.inl rfl | exact Or.inr rfl))) (fun _ _ _ _ _ => pts_nil) (fun _ _ _ _ _ => (pe_c C_law_body hr (by omega) (by rfl) (pa_cons (pv 0) (pa_cons (pv 1) (pa_cons (pv 2) (pa_cons (pv 3) (pa_cons pe_int pa_nil)))))))))), ?_⟩
    refine ⟨.int (m : Int), rfl, (m : Int), rfl, by omega, by omega, fun D nD => ?_⟩
    have Dp1 : D ≠ p := new_ne nD x.isP
    have Dq1 : D ≠ q0 := new_ne nD x.isQ
    refine lc_range (lo := 0) (n := m) (fun i H' => ∃ (bs : List (List Stm)) (xs : List V), bs.length = i ∧ (∀ b ∈ bs, okB c m b) ∧ Oth p H H' ∧ Pool H' p q0 ∧ H' D = some (.lst xs) ∧ DqAll (fun a => New H a ∧ a ≠ D) H' xs (bs.map bD))
      ⟨[], [], rfl, fun _ h => (nomatch h), .of (Ex.new nD), x.ex (Ex.new nD), upd_same, .nil⟩ (fun i H' hi hP => ?_) (fun H' hP => ?_)
    · obtain ⟨bs, xs, rfl, hok, o, x', hD, hd⟩ := hP
      have lxs : xs.length = bs.length := by rw [dqa_len hd, List.length_map]
      show wipe ((wipe _ _).set 4 (some (.int ((0 : Int) + (bs.length : Int))))) _ = wipe _ _ ∧ _
      refine ⟨rfl, .ref p, rfl, .int (c : Int), rfl, .int (m : Int), rfl, .int 12, rfl, p, q0, c, m, rfl, c1, c3, m1, m3, x', fun b v H2 hb hlb o2 x2 dq => ⟨xs, o2 _ _ Dp1 hD, sz_lt (by omega), bs ++ [b], xs ++ [v], by simp, fun y hy => ?_, fun a u na ha => ?_, x2.upd Dp1 Dq1, upd_same, ?_⟩⟩
      · rcases List.mem_append.mp hy with hy | hy
        · exact hok y hy
        · rw [List.mem_singleton.mp hy]; exact hb
      · rw [upd_ne (ne_of_none ha nD)]
        exact o2 _ _ na (o _ _ na ha)
      · rw [List.map_append]
        refine dqa_app (dqa_to (fun _ h => h) (fun a u n ha => ?_) _ _ hd) (.cons (dq_to (fun a n => ⟨new_back o x'.isP n, new_ne n ⟨_, hD⟩⟩) (fun a u n ha => by rw [upd_ne (new_ne n ⟨_, hD⟩)]; exact ha) _ _ dq) .nil)
        rw [upd_ne n.2]
        exact o2 _ _ (new_ne n.1 x.isP) ha
    · obtain ⟨bs, xs, hl, hok, o, x', hD, hd⟩ := hP
      exact q bs D xs H' hl hok o x' nD hD hd
end
/-! ### copies -/
section
variable {K : PySem.W.Frag} {σ : L2.St} {H : Hp} {te tl : TE}
theorem cb_1 {r : List V → Hp → VK → Prop} {Q : VK} (h : te σ H fun x H1 => r [x] H1 Q) : tCB r (tCons te tNil) σ H Q := h
/-- te gives a copy of the item -/
def CpAt (te : TE) (σ : L2.St) (H : Hp) (d : PyData) : Prop := ∀ H1, Ex H H1 → ∀ Q : VK, (∀ v' H2, Ex H1 H2 → Dq (New H1) H2 v' d → Q v' H2) → te σ H1 Q
def CpOut (H1 : Hp) (ds : List PyData) (Q : VK) : Prop := ∀ D ys H2, H1 D = none → Ex H1 H2 → H2 D = some (.lst ys) → DqAll (fun a => New H1 a ∧ a ≠ D) H2 ys ds → Q (.ref D) H2
theorem new_ex {H H1 : Hp} {a : Addr} (e : Ex H H1) (h : New H1 a) : New H a := fresh_back e h
theorem dqa_at {N : Addr → Prop} : ∀ {vs : List V} {ds : List PyData} {i : Nat} {v : V}, DqAll N H vs ds → vs[i]? = some v → ∃ d, ds[i]? = some d ∧ Dq N H v d
  | _, _, i, v, .nil, h => by simp at h
  | _, _, 0, v, .cons a _, h => ⟨_, rfl, by have := Option.some.inj h; subst this; exact a⟩
  | _, _, i + 1, v, .cons _ b, h => by
    obtain ⟨d, h1, h2⟩ := dqa_at (i := i) b (by simpa using h)
    exact ⟨d, by simpa using h1, h2⟩
theorem dpa_at2 : ∀ {vs : List V} {ds : List PyData} {i : Nat} {v : V}, DpAll K H vs ds → vs[i]? = some v → ∃ d, ds[i]? = some d ∧ Dp K H v d
  | _, _, i, v, .nil, h => by simp at h
  | _, _, 0, v, .cons a _, h => ⟨_, rfl, by have := Option.some.inj h; subst this; exact a⟩
  | _, _, i + 1, v, .cons _ b, h => by
    obtain ⟨d, h1, h2⟩ := dpa_at2 (i := i) b (by simpa using h)
    exact ⟨d, by simpa using h1, h2⟩
/-- one turn -/
theorem copy_turn {H1 H' : Hp} {D : Addr} {ys : List V} {ds : List PyData} {i : Nat} {d : PyData} {σ' : L2.St} {Nx : Hp → Prop} (hD : H1 D = none) (e : Ex H1 H') (hD' : H' D = some (.lst ys)) (hd : DqAll (fun a => New H1 a ∧ a ≠ D) H' ys (ds.take i)) (hl : ds.length ≤ 10000) (hi : ds[i]? = some d)
    (hc : CpAt te σ' H' d) (k : ∀ ys2 H2, Ex H1 H2 → H2 D = some (.lst ys2) → DqAll (fun a => New H1 a ∧ a ≠ D) H2 ys2 (ds.take (i + 1)) → Nx H2) :
    te σ' H' fun y H4 => ∃ acc, H4 D = some (.lst acc) ∧ acc.length < sizeLine ∧ Nx (upd H4 D (.lst (acc ++ [y]))) := by
  refine hc H' (Ex.refl _) _ fun v' H2 e2 dq => ⟨ys, e2 _ _ hD', ?_, k (ys ++ [v']) _ ((e.trans e2).mut hD) upd_same ?_⟩
  · rw [dqa_len hd, List.length_take]; exact sz_lt (by omega)
  · rw [List.take_add_one, hi]
    refine dqa_app (dqa_to (fun _ h => h) (fun a u n ha => by rw [upd_ne n.2]; exact e2 _ _ ha) _ _ hd) (.cons (dq_to (fun a n => ⟨new_ex e n, new_ne n ⟨_, hD'⟩⟩) (fun a u n ha => by rw [upd_ne (new_ne n ⟨_, hD'⟩)]; exact ha) _ _ dq) .nil)
theorem lc_copyL {a : Addr} {xs : List V} {ds : List PyData} {j : Nat} {vs : List Nat} (h : Ev tl σ H (.ref a)) (hs : SqL K H a xs) (hlen : xs.length = ds.length) (hl : ds.length ≤ 10000) (hw : ∀ x, wipe ((wipe σ vs).set j (some x)) vs = wipe σ vs)
    (hc : ∀ (i : Nat) (v : V) (d : PyData), xs[i]? = some v → ds[i]? = some d → CpAt te ((wipe σ vs).set j (some v)) H d) {Q : VK} (k : CpOut H ds Q) : tLc (iList K tl) (gName j) tYes te vs σ H Q :=
  h H (Ex.refl H) _ fun H1 e1 => ⟨a, rfl, ⟨xs, ex_l e1 hs⟩, fun D hD =>
    lc_list (xs := xs) (fun i H' => ∃ ys, Ex H1 H' ∧ H' D = some (.lst ys) ∧ DqAll (fun a => New H1 a ∧ a ≠ D) H' ys (ds.take i)) ⟨[], Ex.new hD, upd_same, .nil⟩ (fun i H' _ p => by
        obtain ⟨ys, e, _⟩ := p
        exact ex_l (e1.trans e) hs) (fun i x H' hi p => ⟨hw x, by
        obtain ⟨ys, e, hd, dq⟩ := p
        have hi2 : i < ds.length := by have := (List.getElem?_eq_some_iff.mp hi).1; omega
        have hdi := List.getElem?_eq_getElem hi2
        show te _ _ _
        exact copy_turn (Nx := fun H' => ∃ ys, Ex H1 H' ∧ H' D = some (.lst ys) ∧ DqAll (fun a => New H1 a ∧ a ≠ D) H' ys (ds.take (i + 1))) hD e hd dq hl hdi (fun H2 e2 => hc i x _ hi hdi H2 ((e1.trans e).trans e2)) fun ys2 H2 a b c => ⟨ys2, a, b, c⟩⟩)
      (fun H' p => by
        obtain ⟨ys, e, hd, dq⟩ := p
        rw [List.take_of_length_le (by omega)] at dq
        exact k D ys H' (fresh_back e1 hD) (e1.trans e) hd (dqa_to (fun a n => ⟨new_ex e1 n.1, n.2⟩) (fun _ _ _ h => h) _ _ dq))⟩
theorem lc_copyT {a : Addr} {xs : List V} {ds : List PyData} {j : Nat} {vs : List Nat} (h : Ev tl σ H (.ref a)) (hs : SqT K H a xs) (hlen : xs.length = ds.length) (hl : ds.length ≤ 10000) (hw : ∀ x, wipe ((wipe σ vs).set j (some x)) vs = wipe σ vs)
    (hc : ∀ (i : Nat) (v : V) (d : PyData), xs[i]? = some v → ds[i]? = some d → CpAt te ((wipe σ vs).set j (some v)) H d) {Q : VK} (k : CpOut H ds Q) : tLc (iTup K tl) (gName j) tYes te vs σ H Q :=
  h H (Ex.refl H) _ fun H1 e1 => ⟨a, rfl, ⟨xs, ex_t e1 hs⟩, fun D hD =>
    lc_tup (xs := xs) (fun i H' => ∃ ys, Ex H1 H' ∧ H' D = some (.lst ys) ∧ DqAll (fun a => New H1 a ∧ a ≠ D) H' ys (ds.take i)) ⟨[], Ex.new hD, upd_same, .nil⟩ (fun i H' _ p => by
        obtain ⟨ys, e, _⟩ := p
        exact ex_t (e1.trans e) hs) (fun i x H' hi p => ⟨hw x, by
        obtain ⟨ys, e, hd, dq⟩ := p
        have hi2 : i < ds.length := by have := (List.getElem?_eq_some_iff.mp hi).1; omega
        have hdi := List.getElem?_eq_getElem hi2
        show te _ _ _
        exact copy_turn (Nx := fun H' => ∃ ys, Ex H1 H' ∧ H' D = some (.lst ys) ∧ DqAll (fun a => New H1 a ∧ a ≠ D) H' ys (ds.take (i + 1))) hD e hd dq hl hdi (fun H2 e2 => hc i x _ hi hdi H2 ((e1.trans e).trans e2)) fun ys2 H2 a b c => ⟨ys2, a, b, c⟩⟩)
      (fun H' p => by
        obtain ⟨ys, e, hd, dq⟩ := p
        rw [List.take_of_length_le (by omega)] at dq
        exact k D ys H' (fresh_back e1 hD) (e1.trans e) hd (dqa_to (fun a n => ⟨new_ex e1 n.1, n.2⟩) (fun _ _ _ h => h) _ _ dq))⟩
/-- a copy of data at most n - 1 deep -/
def spCopy (K : PySem.W.Frag) (n : Nat) : Sp := fun vs H Q _ => ∃ (v : V) (d : PyData) (m : Nat), vs = [v] ∧ n = m + 1 ∧ Dp K H v d ∧ fit d m = true ∧ ∀ v' H', Ex H H' → Dq (New H) H' v' d → Q v' H'
theorem cp_call {E : XK} {ti : TE} {n m : Nat} {v : V} {d : PyData} (hn : n = m + 1) (h : Ev ti σ H v) (hd : Dp K H v d) (hf : fit d m = true) : CpAt (tCall (spCopy K n) [] E (tCons ti tNil)) σ H d := fun H1 e Q q =>
  h H1 e _ fun H2 e2 => ⟨v, d, m, rfl, hn, dp_ex (e.trans e2) d v hd, hf, fun v' H3 e3 dq => q v' H3 (e2.trans e3) (dq_to (fun a n => new_ex e2 n) (fun _ _ _ h => h) _ _ dq)⟩
theorem flat_dq {v : V} {d : PyData} {N : Addr → Prop} (h : Dp K H v d) (h1 : isa d "list" = false) (h2 : isa d "tuple" = false) : Dq N H v d := by
  rw [isa_list] at h1
  rw [isa_tuple] at h2
  cases h with
  | non => exact .non
  | bl b => exact .bl b
  | int i => exact .int i
  | str x => exact .str x
  | lst _ _ => cases h1
  | tup _ _ => cases h2
end
abbrev s_law_copied : Stmt := topS 45
theorem sc_law_copied : FnScope ["value", "item"] ["value"] (defScope s_law_copied) := ⟨rfl, rfl, rfl, by decide +kernel, rfl, by decide +kernel, by decide +kernel⟩
abbrev scopied : Stmt := topS 7
theorem sccopied : FnScope ["value", "item", "key", "worth"] ["value"] (defScope scopied) := ⟨rfl, rfl, rfl, by decide +kernel, rfl, by decide +kernel, by decide +kernel⟩
section
variable {P : Program} {w : World} {K : PySem.W.Frag} {mg : Str → Option Value} {base : Heap}
theorem isa_list_t {H : Hp} {v : V} {d : PyData} (h : Dp K H v d) (hl : isa d "list" = true) : ∃ a xs ds, v = .ref a ∧ d = .list ds ∧ SqL K H a xs ∧ DpAll K H xs ds := by
  rw [isa_list] at hl
  cases h with
  | lst s a => exact ⟨_, _, _, rfl, rfl, s, a⟩
  | _ => cases hl
theorem isa_tuple_t {H : Hp} {v : V} {d : PyData} (h : Dp K H v d) (hl : isa d "tuple" = true) : ∃ a xs ds, v = .ref a ∧ d = .tuple ds ∧ SqT K H a xs ∧ DpAll K H xs ds := by
  rw [isa_tuple] at hl
  cases h with
  | tup s a => exact ⟨_, _, _, rfl, rfl, s, a⟩
  | _ => cases hl
theorem lcopied_step {f : Addr} {fd : FuncData} {n : Nat} (F : Fun K "_law_copied" "_law_copied" s_law_copied f fd) (z_isinstance : mg "isinstance" = none) (z_list : mg "list" = none) (z_tuple : mg "tuple" = none) (C_law_copied : Cal P w K mg base n "_law_copied" (spCopy K n) []) :
    FnOk P w K mg base CX0 (n + 1) f fd ["value"] (spCopy K (n + 1)) := by
  have sc := sc_law_copied
  refine F.ok sc (fun vs H Q E h => ?_) (fun cdv A outer s H vs Q E hr h => ?_)
  · obtain ⟨v, d, m, rfl, _⟩ := h
    rfl
  · obtain ⟨v, d, n', rfl, en, hv, hf, q⟩ := h
    obtain rfl : n' = n := by omega
    refine ⟨_, (pss_cons (ps_if (pt_val (pe_callB call_isi (by rfl) z_isinstance (by decide +kernel) (pa_cons (pv 0) (pa_cons (pe_bltn (v := .ty "list") (by rfl) z_list (by decide +kernel) rfl) pa_nil))))
      (pss_one (ps_ret (pe_lc (own := [("item", 1)]) (by rfl) sc.nd (pi_list (pv 0)) (blkOk_by (own := [("item", 1)]) (N := ["value", "item"]) (sc := defScope s_law_copied) (by decide +kernel)) (fun _ _ _ _ _ => (pg_name (i := 1) sc.nd rfl (by first | exact Or.inl rfl | exact Or.inr rfl))) (fun _ _ _ _ _ => pts_nil) (fun _ _ _ _ _ => (pe_c C_law_copied hr (by omega) (by rfl) (pa_cons (pv 1) pa_nil))))))
      pss_nil)
      (pss_cons (ps_if (pt_val (pe_callB call_isi (by rfl) z_isinstance (by decide +kernel) (pa_cons (pv 0) (pa_cons (pe_bltn (v := .ty "tuple") (by rfl) z_tuple (by decide +kernel) rfl) pa_nil))))
      (pss_one (ps_ret (pe_callTy call_tuple_of (by rfl) z_tuple (by decide +kernel) (pa_cons (pe_lc (own := [("item", 1)]) (by rfl) sc.nd (pi_tup (pv 0)) (blkOk_by (own := [("item", 1)]) (N := ["value", "item"]) (sc := defScope s_law_copied) (by decide +kernel)) (fun _ _ _ _ _ => (pg_name (i := 1) sc.nd rfl (by first | exact Or.inl rfl | exact Or.inr rfl))) (fun _ _ _ _ _ => pts_nil) (fun _ _ _ _ _ => (pe_c C_law_copied hr (by omega) (by rfl) (pa_cons (pv 1) pa_nil)))) pa_nil))))
      pss_nil)
      (pss_one (ps_ret (pv 0))))), ?_⟩
    have kd := kitB_isa d
    refine q_when (et_B (ev_isi hv (ev_var rfl) kd.2.2.2.1)) (fun hb H1 e1 => ?_) (fun hb H1 e1 => ?_)
    · obtain ⟨a, xs, ds, rfl, rfl, hs, hx⟩ := isa_list_t hv hb
      obtain ⟨m, em, lx, gx⟩ := fit_list hf
      have hs1 := ex_l e1 hs
      have hx1 := dpa_ex e1 ds _ hx
      have lxs := dpa_len hx1
      refine s_retR (lc_copyL (ev_var rfl) hs1 lxs lx (fun _ => rfl) (fun i v d hv hd => ?_) fun D ys H2 nD e2 hD dq => ?_)
      · obtain ⟨d', hd', p⟩ := dpa_at2 hx1 hv
        have : d' = d := Option.some.inj (hd'.symm.trans hd)
        subst this
        exact cp_call em (ev_var rfl) p (fitAll_mem gx (List.mem_of_getElem? hd))
      · exact q _ _ (e1.trans e2) (.lst (new_ex e1 nD) hD (dqa_to (fun a n => new_ex e1 n.1) (fun _ _ _ h => h) _ _ dq))
    refine q_when (et_B (ev_isi (dp_ex e1 _ _ hv) (ev_var rfl) kd.2.2.2.2)) (fun hc H2 e2 => ?_) (fun hc H2 e2 => ?_)
    · have e12 := e1.trans e2
      obtain ⟨a, xs, ds, rfl, rfl, hs, hx⟩ := isa_tuple_t hv hc
      obtain ⟨m, em, lx, gx⟩ := fit_tuple hf
      have hs1 := ex_t e12 hs
      have hx1 := dpa_ex e12 ds _ hx
      have lxs := dpa_len hx1
      refine s_retR (cb_1 ?_)
      refine lc_copyT (ev_var rfl) hs1 lxs lx (fun _ => rfl) (fun i v d hv hd => ?_) fun D ys H3 nD e3 hD dq => ?_
      · obtain ⟨d', hd', p⟩ := dpa_at2 hx1 hv
        have : d' = d := Option.some.inj (hd'.symm.trans hd)
        subst this
        exact cp_call em (ev_var rfl) p (fitAll_mem gx (List.mem_of_getElem? hd))
      · refine ⟨D, ys, rfl, .inl ⟨sq_of hD, fun T nT => ?_⟩⟩
        have eT := Ex.new (o := .tup ys) nT
        exact q _ _ ((e12.trans e3).trans eT) (.tup (new_ex (e12.trans e3) nT) upd_same (dqa_to (fun a n => new_ex e12 n.1) (fun a u _ ha => eT _ _ ha) _ _ dq))
    · have e12 := e1.trans e2
      refine s_ret (ev_var rfl) fun H3 e3 => q _ _ (e12.trans e3) (flat_dq (dp_ex (e12.trans e3) _ _ hv) hb hc)
theorem ok_lcopied {f : Addr} {fd : FuncData} (F : Fun K "_law_copied" "_law_copied" s_law_copied f fd) (g : mg "_law_copied" = some (.ref f)) (b : Binds K fd ["value"] []) (z_isinstance : mg "isinstance" = none) (z_list : mg "list" = none) (z_tuple : mg "tuple" = none) : ∀ n, FnOk P w K mg base CX0 n f fd ["value"] (spCopy K n)
  | 0 => ⟨fun _ _ _ _ ⟨_, _, _, _, h, _⟩ => (nomatch h), fun _ _ _ _ _ _ _ _ _ _ _ _ _ ⟨_, _, _, _, h, _⟩ => (nomatch h)⟩
  | n + 1 => lcopied_step F z_isinstance z_list z_tuple ⟨f, fd, _, [], ok_lcopied F g b z_isinstance z_list z_tuple n, g, F.kp, b, .nil⟩
theorem kd_all : ∀ t ∈ ["NoneType", "bool", "int", "str", "list", "tuple"], kitB t "dict" = some false := by
  decide +kernel
theorem kd_dict {H : Hp} {v : V} {d : PyData} (h : Dp K H v d) : kitB (tyn d) "dict" = some false := by
  refine kd_all _ ?_
  cases h <;> simp [tyn]
theorem copied_step {f : Addr} {fd : FuncData} {n : Nat} (F : Fun K "copied" "copied" scopied f fd) (z_isinstance : mg "isinstance" = none) (z_list : mg "list" = none) (z_tuple : mg "tuple" = none) (z_dict : mg "dict" = none) (Ccopied : Cal P w K mg base n "copied" (spCopy K n) []) :
    FnOk P w K mg base CX0 (n + 1) f fd ["value"] (spCopy K (n + 1)) := by
  have sc := sccopied
  refine F.ok sc (fun vs H Q E h => ?_) (fun cdv A outer s H vs Q E hr h => ?_)
  · obtain ⟨v, d, m, rfl, _⟩ := h
    rfl
  · obtain ⟨v, d, n', rfl, en, hv, hf, q⟩ := h
    obtain rfl : n' = n := by omega
    refine ⟨_, (pss_cons (ps_if (pt_val (pe_callB call_isi (by rfl) z_isinstance (by decide +kernel) (pa_cons (pv 0) (pa_cons (pe_bltn (v := .ty "list") (by rfl) z_list (by decide +kernel) rfl) pa_nil))))
      (pss_one (ps_ret (pe_lc (own := [("item", 1)]) (by rfl) sc.nd (pi_list (pv 0)) (blkOk_by (own := [("item", 1)]) (N := ["value", "item", "key", "worth"]) (sc := defScope scopied) (by decide +kernel)) (fun _ _ _ _ _ => (pg_name (i := 1) sc.nd rfl (by first | exact Or.inl rfl | exact Or.inr rfl))) (fun _ _ _ _ _ => pts_nil) (fun _ _ _ _ _ => (pe_c Ccopied hr (by omega) (by rfl) (pa_cons (pv 1) pa_nil))))))
      pss_nil)
      (pss_cons (ps_if (pt_val (pe_callB call_isi (by rfl) z_isinstance (by decide +kernel) (pa_cons (pv 0) (pa_cons (pe_bltn (v := .ty "tuple") (by rfl) z_tuple (by decide +kernel) rfl) pa_nil))))
      (pss_one (ps_ret (pe_callTy call_tuple_of (by rfl) z_tuple (by decide +kernel) (pa_cons (pe_lc (own := [("item", 1)]) (by rfl) sc.nd (pi_tup (pv 0)) (blkOk_by (own := [("item", 1)]) (N := ["value", "item", "key", "worth"]) (sc := defScope scopied) (by decide +kernel)) (fun _ _ _ _ _ => (pg_name (i := 1) sc.nd rfl (by first | exact Or.inl rfl | exact Or.inr rfl))) (fun _ _ _ _ _ => pts_nil) (fun _ _ _ _ _ => (pe_c Ccopied hr (by omega) (by rfl) (pa_cons (pv 1) pa_nil)))) pa_nil))))
      pss_nil)
      (pss_cons (ps_if (pt_val (pe_callB call_isi (by rfl) z_isinstance (by decide +kernel) (pa_cons (pv 0) (pa_cons (pe_bltn (v := .ty "dict") (by rfl) z_dict (by decide +kernel) rfl) pa_nil))))
      (pss_one ps_never)
      pss_nil)
      (pss_one (ps_ret (pv 0)))))), ?_⟩
    have kd := kitB_isa d
    refine q_when (et_B (ev_isi hv (ev_var rfl) kd.2.2.2.1)) (fun hb H1 e1 => ?_) (fun hb H1 e1 => ?_)
    · obtain ⟨a, xs, ds, rfl, rfl, hs, hx⟩ := isa_list_t hv hb
      obtain ⟨m, em, lx, gx⟩ := fit_list hf
      have hs1 := ex_l e1 hs
      have hx1 := dpa_ex e1 ds _ hx
      have lxs := dpa_len hx1
      refine s_retR (lc_copyL (ev_var rfl) hs1 lxs lx (fun _ => rfl) (fun i v d hv hd => ?_) fun D ys H2 nD e2 hD dq => ?_)
      · obtain ⟨d', hd', p⟩ := dpa_at2 hx1 hv
        have : d' = d := Option.some.inj (hd'.symm.trans hd)
        subst this
        exact cp_call em (ev_var rfl) p (fitAll_mem gx (List.mem_of_getElem? hd))
      · exact q _ _ (e1.trans e2) (.lst (new_ex e1 nD) hD (dqa_to (fun a n => new_ex e1 n.1) (fun _ _ _ h => h) _ _ dq))
    refine q_when (et_B (ev_isi (dp_ex e1 _ _ hv) (ev_var rfl) kd.2.2.2.2)) (fun hc H2 e2 => ?_) (fun hc H2 e2 => ?_)
    · have e12 := e1.trans e2
      obtain ⟨a, xs, ds, rfl, rfl, hs, hx⟩ := isa_tuple_t hv hc
      obtain ⟨m, em, lx, gx⟩ := fit_tuple hf
      have hs1 := ex_t e12 hs
      have hx1 := dpa_ex e12 ds _ hx
      have lxs := dpa_len hx1
      refine s_retR (cb_1 ?_)
      refine lc_copyT (ev_var rfl) hs1 lxs lx (fun _ => rfl) (fun i v d hv hd => ?_) fun D ys H3 nD e3 hD dq => ?_
      · obtain ⟨d', hd', p⟩ := dpa_at2 hx1 hv
        have : d' = d := Option.some.inj (hd'.symm.trans hd)
        subst this
        exact cp_call em (ev_var rfl) p (fitAll_mem gx (List.mem_of_getElem? hd))
      · refine ⟨D, ys, rfl, .inl ⟨sq_of hD, fun T nT => ?_⟩⟩
        have eT := Ex.new (o := .tup ys) nT
        exact q _ _ ((e12.trans e3).trans eT) (.tup (new_ex (e12.trans e3) nT) upd_same (dqa_to (fun a n => new_ex e12 n.1) (fun a u _ ha => eT _ _ ha) _ _ dq))
    · have e12 := e1.trans e2
      refine q_when (b := false) (et_B (ev_isi (dp_ex e12 _ _ hv) (ev_var rfl) (kd_dict hv))) (fun h => (nomatch h)) fun _ H3 e3 => ?_
      have e13 := e12.trans e3
      refine s_ret (ev_var rfl) fun H4 e4 => q _ _ (e13.trans e4) (flat_dq (dp_ex (e13.trans e4) _ _ hv) hb hc)
theorem ok_copied {f : Addr} {fd : FuncData} (F : Fun K "copied" "copied" scopied f fd) (g : mg "copied" = some (.ref f)) (b : Binds K fd ["value"] []) (z_isinstance : mg "isinstance" = none) (z_list : mg "list" = none) (z_tuple : mg "tuple" = none) (z_dict : mg "dict" = none) : ∀ n, FnOk P w K mg base CX0 n f fd ["value"] (spCopy K n)
  | 0 => ⟨fun _ _ _ _ ⟨_, _, _, _, h, _⟩ => (nomatch h), fun _ _ _ _ _ _ _ _ _ _ _ _ _ ⟨_, _, _, _, h, _⟩ => (nomatch h)⟩
  | n + 1 => copied_step F z_isinstance z_list z_tuple z_dict ⟨f, fd, _, [], ok_copied F g b z_isinstance z_list z_tuple z_dict n, g, F.kp, b, .nil⟩
end
/-! ### what the program's tests of kinds say -/
def isIntD : PyData → Bool
  | .int _ => true
  | _ => false
def btw (lo hi : Int) : PyData → Bool
  | .int i => decide (lo ≤ i) && decide (i ≤ hi)
  | _ => false
/-- each less than the next -/
def up : List PyData → Bool
  | .int i :: .int j :: r => decide (i < j) && up (.int j :: r)
  | _ => true
def cellsD (c : Nat) : PyData → Bool
  | .list ds => ds.all (btw 0 ((c : Int) - 1)) && up ds
  | _ => false
def rowD (c : Nat) : PyData → Bool
  | .list ds => decide (ds.length = c + 2) && ds.all (btw (-9) 9)
  | _ => false
def listD : PyData → Bool
  | .list _ => true
  | _ => false
def pairD : PyData → Bool
  | .list [a, b] => listD a && listD b
  | _ => false
def szOf (x : Str) : Option Nat :=
  if x = "set" then some 3 else if x = "carry" then some 2 else if x = "keep" then some 3 else if x = "either" then some 3 else if x = "again" then some 2 else if x = "call" then some 4 else if x = "end" then some 2 else none
def sizedD : PyData → Bool
  | .tuple (.str x :: r) => decide (szOf x = some (r.length + 1))
  | _ => false
def stmD (c m : Nat) : PyData → Bool
  | .tuple [.str x, a] => if x = "carry" then rowD c a else if x = "again" then listD a else if x = "end" then btw 0 1 a else false
  | .tuple [.str x, a, b] => if x = "set" then btw 0 ((c : Int) - 1) a && rowD c b else if x = "keep" then cellsD c a && listD b else if x = "either" then listD a && listD b else false
  | .tuple [.str x, a, b, d] => if x = "call" then btw 0 ((m : Int) - 1) a && (rowD c b && pairD d) else false
  | _ => false
def blocksD : PyData → List PyData
  | .tuple [.str x, a] => if x = "again" then [a] else []
  | .tuple [.str x, a, b] => if x = "keep" then [b] else if x = "either" then [a, b] else []
  | .tuple [.str x, _, _, .list [a, b]] => if x = "call" then [a, b] else []
  | _ => []
abbrev sis_integer : Stmt := topS 2
theorem scis_integer : FnScope ["value"] ["value"] (defScope sis_integer) := ⟨rfl, rfl, rfl, by decide +kernel, rfl, by decide +kernel, by decide +kernel⟩
abbrev sis_between : Stmt := topS 3
theorem scis_between : FnScope ["value", "low", "high"] ["value", "low", "high"] (defScope sis_between) := ⟨rfl, rfl, rfl, by decide +kernel, rfl, by decide +kernel, by decide +kernel⟩
abbrev sis_bit : Stmt := topS 4
theorem scis_bit : FnScope ["value"] ["value"] (defScope sis_bit) := ⟨rfl, rfl, rfl, by decide +kernel, rfl, by decide +kernel, by decide +kernel⟩
abbrev sis_index : Stmt := topS 5
theorem scis_index : FnScope ["value", "many"] ["value", "many"] (defScope sis_index) := ⟨rfl, rfl, rfl, by decide +kernel, rfl, by decide +kernel, by decide +kernel⟩
abbrev sis_cell_list : Stmt := topS 6
theorem scis_cell_list : FnScope ["value", "cells", "one", "other", "cell"] ["value", "cells"] (defScope sis_cell_list) := ⟨rfl, rfl, rfl, by decide +kernel, rfl, by decide +kernel, by decide +kernel⟩
abbrev sis_row : Stmt := topS 20
theorem scis_row : FnScope ["value", "cells", "item"] ["value", "cells"] (defScope sis_row) := ⟨rfl, rfl, rfl, by decide +kernel, rfl, by decide +kernel, by decide +kernel⟩
abbrev sis_block_pair : Stmt := topS 21
theorem scis_block_pair : FnScope ["value"] ["value"] (defScope sis_block_pair) := ⟨rfl, rfl, rfl, by decide +kernel, rfl, by decide +kernel, by decide +kernel⟩
abbrev sis_sized : Stmt := topS 22
theorem scis_sized : FnScope ["value"] ["value"] (defScope sis_sized) := ⟨rfl, rfl, rfl, by decide +kernel, rfl, by decide +kernel, by decide +kernel⟩
abbrev sis_statement : Stmt := topS 23
theorem scis_statement : FnScope ["value", "cells", "procedures", "word"] ["value", "cells", "procedures"] (defScope sis_statement) := ⟨rfl, rfl, rfl, by decide +kernel, rfl, by decide +kernel, by decide +kernel⟩
abbrev sblocks_of : Stmt := topS 24
theorem scblocks_of : FnScope ["statement", "word"] ["statement"] (defScope sblocks_of) := ⟨rfl, rfl, rfl, by decide +kernel, rfl, by decide +kernel, by decide +kernel⟩
section
variable {P : Program} {w : World} {K : PySem.W.Frag} {mg : Str → Option Value} {base : Heap} {σ : L2.St} {H : Hp}
/-- a test of one value, and ints beside it -/
def spT (K : PySem.W.Frag) (ns : List Int) (f : PyData → Bool) : Sp := fun vs H Q _ => ∃ (v : V) (d : PyData), vs = v :: ns.map V.int ∧ Dp K H v d ∧ ∀ H', Ex H H' → Q (.bl (f d)) H'
def spInt (K : PySem.W.Frag) : Sp := fun vs H Q _ => ∃ (v : V) (d : PyData), vs = [v] ∧ Dp K H v d ∧ ∀ H', Ex H H' → Q (.bl (isIntD d)) H'
def spBtw (K : PySem.W.Frag) : Sp := fun vs H Q _ => ∃ (v : V) (d : PyData) (lo hi : Int), vs = [v, .int lo, .int hi] ∧ Dp K H v d ∧ ∀ H', Ex H H' → Q (.bl (btw lo hi d)) H'
def spBit (K : PySem.W.Frag) : Sp := fun vs H Q _ => ∃ (v : V) (d : PyData), vs = [v] ∧ Dp K H v d ∧ ∀ H', Ex H H' → Q (.bl (btw 0 1 d)) H'
def spIx (K : PySem.W.Frag) : Sp := fun vs H Q _ => ∃ (v : V) (d : PyData) (n : Int), vs = [v, .int n] ∧ Dp K H v d ∧ ∀ H', Ex H H' → Q (.bl (btw 0 (n - 1) d)) H'
theorem ev_spInt {te : TE} {E : XK} {v : V} {d : PyData} (h : Ev te σ H v) (hd : Dp K H v d) : Ev (tCall (spInt K) [] E (tCons te tNil)) σ H (.bl (isIntD d)) :=
  ev_call (ea_cons h ea_nil) fun H1 e Q q _ => ⟨v, d, rfl, dp_ex e d v hd, q⟩
theorem ev_spBtw {te t1 t2 : TE} {E : XK} {v : V} {d : PyData} {lo hi : Int} (h : Ev te σ H v) (h1 : Ev t1 σ H (.int lo)) (h2 : Ev t2 σ H (.int hi)) (hd : Dp K H v d) : Ev (tCall (spBtw K) [] E (tCons te (tCons t1 (tCons t2 tNil)))) σ H (.bl (btw lo hi d)) :=
  ev_call (ea_cons h (ea_cons h1 (ea_cons h2 ea_nil))) fun H1 e Q q _ => ⟨v, d, lo, hi, rfl, dp_ex e d v hd, q⟩
theorem ev_spBit {te : TE} {E : XK} {v : V} {d : PyData} (h : Ev te σ H v) (hd : Dp K H v d) : Ev (tCall (spBit K) [] E (tCons te tNil)) σ H (.bl (btw 0 1 d)) :=
  ev_call (ea_cons h ea_nil) fun H1 e Q q _ => ⟨v, d, rfl, dp_ex e d v hd, q⟩
theorem ev_spIx {te t1 : TE} {E : XK} {v : V} {d : PyData} {n : Int} (h : Ev te σ H v) (h1 : Ev t1 σ H (.int n)) (hd : Dp K H v d) : Ev (tCall (spIx K) [] E (tCons te (tCons t1 tNil))) σ H (.bl (btw 0 (n - 1) d)) :=
  ev_call (ea_cons h (ea_cons h1 ea_nil)) fun H1 e Q q _ => ⟨v, d, n, rfl, dp_ex e d v hd, q⟩
theorem ev_chain {r r' : R2} {ta tb tc : TE} {x y z : V} {a b : Bool} (h1 : Ev ta σ H x) (h2 : Ev tb σ H y) (hr : RV r x y H (.bl a)) (h3 : a = true → Ev tc σ H z ∧ RV r' y z H (.bl b)) : Ev (tChain r r' ta tb tc) σ H (.bl (a && b)) := fun H1 e Q q =>
  h1 H1 e _ fun H2 e2 => h2 H2 (e.trans e2) _ fun H3 e3 => hr H3 ((e.trans e2).trans e3) _ fun H4 e4 => ⟨a, rfl, by
    have e14 := ((e2.trans e3).trans e4)
    cases a with
    | true =>
      obtain ⟨k1, k2⟩ := h3 rfl
      show tc σ H4 _
      exact k1 H4 (e.trans e14) _ fun H5 e5 => k2 H5 (e.trans (e14.trans e5)) Q fun H6 e6 => q H6 ((e14.trans e5).trans e6)
    | false =>
      show Q (.bl false) H4
      exact q H4 e14⟩
theorem ok_is_integer {f : Addr} {fd : FuncData} {k : Nat} (F : Fun K "is_integer" "is_integer" sis_integer f fd) (z_isinstance : mg "isinstance" = none) (z_int : mg "int" = none) (z_bool : mg "bool" = none) : FnOk P w K mg base CX0 (k + 1) f fd ["value"] (spInt K) := by
  have sc := scis_integer
  refine F.ok sc (fun vs H Q E h => ?_) (fun cdv A outer s H vs Q E hr h => ?_)
  · obtain ⟨v, d, rfl, _⟩ := h
    rfl
  · obtain ⟨v, d, rfl, hd, q⟩ := h
    refine ⟨_, (pss_one (ps_ret (pe_and (pe_callB call_isi (by rfl) z_isinstance (by decide +kernel) (pa_cons (pv 0) (pa_cons (pe_bltn (v := .ty "int") (by rfl) z_int (by decide +kernel) rfl) pa_nil))) (pe_one (pe_not (pe_callB call_isi (by rfl) z_isinstance (by decide +kernel) (pa_cons (pv 0) (pa_cons (pe_bltn (v := .ty "bool") (by rfl) z_bool (by decide +kernel) rfl) pa_nil)))))))), ?_⟩
    have kd := kitB_isa d
    refine s_ret (ev_andV (ev_isi hd (ev_var rfl) kd.2.1) fun _ => ev_notV (ev_isi hd (ev_var rfl) kd.1)) fun H1 e1 => ?_
    have z : (isa d "int" && !isa d "bool") = isIntD d := by
      rw [isa_int, isa_bool]
      cases d <;> rfl
    rw [z]
    exact q H1 e1
theorem isInt_v {v : V} {d : PyData} (h : Dp K H v d) (hi : isIntD d = true) : ∃ i, v = .int i ∧ d = .int i := by
  cases h with
  | int i => exact ⟨i, rfl, rfl⟩
  | _ => cases hi
theorem btw_no {d : PyData} (lo hi : Int) (h : isIntD d = false) : btw lo hi d = false := by
  cases d <;> first | rfl | cases h
theorem ok_is_between {f : Addr} {fd : FuncData} {k : Nat} (F : Fun K "is_between" "is_between" sis_between f fd) (Cis_integer : Cal P w K mg base 1 "is_integer" (spInt K) []) (hk : 1 ≤ k) : FnOk P w K mg base CX0 (k + 1) f fd ["value", "low", "high"] (spBtw K) := by
  have sc := scis_between
  refine F.ok sc (fun vs H Q E h => ?_) (fun cdv A outer s H vs Q E hr h => ?_)
  · obtain ⟨v, d, lo, hi, rfl, _⟩ := h
    rfl
  · obtain ⟨v, d, lo, hi, rfl, hd, q⟩ := h
    refine ⟨_, (pss_one (ps_ret (pe_and (pe_c Cis_integer hr (by omega) (by rfl) (pa_cons (pv 0) pa_nil)) (pe_one (pe_chain op_le op_le (pv 1) (pv 0) (pv 2)))))), ?_⟩
    have z : (isIntD d && btw lo hi d) = btw lo hi d := by
      cases d <;> rfl
    rw [← z] at q
    cases hb : isIntD d with
    | false =>
      rw [hb] at q
      exact s_ret (ev_andV (a := false) (ev_is (ev_spInt (ev_var rfl) hd) (by rw [hb])) fun h => (nomatch h)) fun H1 e1 => q H1 e1
    | true =>
      obtain ⟨i, rfl, rfl⟩ := isInt_v hd hb
      exact s_ret (ev_andV (a := true) (b := decide (lo ≤ i) && decide (i ≤ hi)) (ev_spInt (ev_var rfl) hd) fun _ => ev_chain (ev_var rfl) (ev_var rfl) rv_I0 fun _ => ⟨ev_var rfl, rv_I0⟩) fun H1 e1 => q H1 e1
theorem ok_is_bit {f : Addr} {fd : FuncData} {k : Nat} (F : Fun K "is_bit" "is_bit" sis_bit f fd) (Cis_between : Cal P w K mg base 2 "is_between" (spBtw K) []) (hk : 2 ≤ k) : FnOk P w K mg base CX0 (k + 1) f fd ["value"] (spBit K) := by
  have sc := scis_bit
  refine F.ok sc (fun vs H Q E h => ?_) (fun cdv A outer s H vs Q E hr h => ?_)
  · obtain ⟨v, d, rfl, _⟩ := h
    rfl
  · obtain ⟨v, d, rfl, hd, q⟩ := h
    refine ⟨_, (pss_one (ps_ret (pe_c Cis_between hr (by omega) (by rfl) (pa_cons (pv 0) (pa_cons pe_int (pa_cons pe_int pa_nil)))))), ?_⟩
    exact s_ret (ev_spBtw (ev_var rfl) ev_c ev_c hd) fun H1 e1 => q H1 e1
theorem ok_is_index {f : Addr} {fd : FuncData} {k : Nat} (F : Fun K "is_index" "is_index" sis_index f fd) (Cis_between : Cal P w K mg base 2 "is_between" (spBtw K) []) (hk : 2 ≤ k) : FnOk P w K mg base CX0 (k + 1) f fd ["value", "many"] (spIx K) := by
  have sc := scis_index
  refine F.ok sc (fun vs H Q E h => ?_) (fun cdv A outer s H vs Q E hr h => ?_)
  · obtain ⟨v, d, n, rfl, _⟩ := h
    rfl
  · obtain ⟨v, d, n, rfl, hd, q⟩ := h
    refine ⟨_, (pss_one (ps_ret (pe_c Cis_between hr (by omega) (by rfl) (pa_cons (pv 0) (pa_cons pe_int (pa_cons (pe_op op_sub (pv 1) pe_int) pa_nil)))))), ?_⟩
    exact s_ret (ev_spBtw (ev_var rfl) ev_c (ev_op (ev_var rfl) ev_c rv_I0) hd) fun H1 e1 => q H1 e1
end
section
variable {P : Program} {w : World} {K : PySem.W.Frag} {mg : Str → Option Value} {base : Heap} {σ : L2.St} {H : Hp}
theorem ev_allN {te : TE} {bs : List Bool} (h : EvL te σ H (bs.map V.bl)) : Ev (tCB (rAll K) (tCons te tNil)) σ H (.bl (bs.all id)) := fun H1 e Q q =>
  h H1 e _ fun p H2 _ e2 h2 => ⟨p, bs, rfl, sq_of h2, q H2 e2⟩
/-- [f(x, ..) for x in xs], f a test -/
theorem el_tests {tl te : TE} {a : Addr} {xs : List V} {ds : List PyData} {j : Nat} {vs : List Nat} (p : PyData → Bool) (h : Ev tl σ H (.ref a)) (hs : SqL K H a xs) (hx : DpAll K H xs ds) (hl : ds.length ≤ 10000) (hw : ∀ x, wipe ((wipe σ vs).set j (some x)) vs = wipe σ vs)
    (he : ∀ (v : V) (d : PyData) H1, Ex H H1 → Dp K H1 v d → Ev te ((wipe σ vs).set j (some v)) H1 (.bl (p d))) : EvL (tLc (iList K tl) (gName j) tYes te vs) σ H ((ds.map p).map V.bl) := by
  have lxs := dpa_len hx
  refine el_is (el_lcL (fun _ => true) (fun i => .bl (p (ds.getD i .none))) h hs (by omega) hw (fun _ _ _ _ _ => et_yes) (fun i x H1 e1 hi _ => ?_)) ?_
  · have hi2 : i < ds.length := by have := (List.getElem?_eq_some_iff.mp hi).1; omega
    obtain ⟨v, h1, h2⟩ := dpa_at hx hi2
    have : v = x := Option.some.inj (h1.symm.trans hi)
    subst this
    exact he v _ H1 e1 (dp_ex e1 _ _ h2)
  · rw [given_all, lxs, List.map_map]
    refine List.ext_getElem (by simp) fun i h1 h2 => ?_
    have hi : i < ds.length := by simpa using h1
    simp only [List.getElem_map, List.getElem_range]
    rw [List.getD_eq_getElem?_getD, List.getElem?_eq_getElem hi]
    rfl
theorem all_map (p : PyData → Bool) (ds : List PyData) : (ds.map p).all id = ds.all p := by
  rw [List.all_map]; rfl
def spRw (K : PySem.W.Frag) : Sp := fun vs H Q _ => ∃ (v : V) (d : PyData) (c n : Nat), vs = [v, .int (c : Int)] ∧ Dp K H v d ∧ fit d n = true ∧ ∀ H', Ex H H' → Q (.bl (rowD c d)) H'
theorem ev_spRw {te t1 : TE} {E : XK} {v : V} {d : PyData} {c n : Nat} (h : Ev te σ H v) (h1 : Ev t1 σ H (.int (c : Int))) (hd : Dp K H v d) (hf : fit d n = true) : Ev (tCall (spRw K) [] E (tCons te (tCons t1 tNil))) σ H (.bl (rowD c d)) :=
  ev_call (ea_cons h (ea_cons h1 ea_nil)) fun H1 e Q q _ => ⟨v, d, c, n, rfl, dp_ex e d v hd, hf, q⟩
theorem rowD_list {c : Nat} {d : PyData} (h : isa d "list" = false) : rowD c d = false ∧ cellsD c d = false ∧ pairD d = false ∧ listD d = false := by
  rw [isa_list] at h
  cases d <;> first | exact ⟨rfl, rfl, rfl, rfl⟩ | cases h
theorem ok_is_row {f : Addr} {fd : FuncData} {k : Nat} {tk : Tok} (F : Fun K "is_row" "is_row" sis_row f fd) (z_isinstance : mg "isinstance" = none) (z_list : mg "list" = none) (z_len : mg "len" = none) (z_all : mg "all" = none) (c_ROW_LIMIT : mg "ROW_LIMIT" = some (.int 9 tk)) (Cis_between : Cal P w K mg base 2 "is_between" (spBtw K) []) (hk : 2 ≤ k) :
    FnOk P w K mg base CX0 (k + 1) f fd ["value", "cells"] (spRw K) := by
  have sc := scis_row
  refine F.ok sc (fun vs H Q E h => ?_) (fun cdv A outer s H vs Q E hr h => ?_)
  · obtain ⟨v, d, c, n, rfl, _⟩ := h
    rfl
  · obtain ⟨v, d, c, n, rfl, hd, hf, q⟩ := h
    refine ⟨_, (pss_cons (ps_if (PW.pt (pw_or (pt_not (pt_val (pe_callB call_isi (by rfl) z_isinstance (by decide +kernel) (pa_cons (pv 0) (pa_cons (pe_bltn (v := .ty "list") (by rfl) z_list (by decide +kernel) rfl) pa_nil))))) (pw_or1 (pt_cmpR op_ne (pe_callB call_len_seq (by rfl) z_len (by decide +kernel) (pa_cons (pv 0) pa_nil)) (pe_op op_add (pv 1) pe_int) (nomark _)))))
      (pss_one (ps_ret pe_bl))
      pss_nil)
      (pss_one (ps_ret (pe_callB (cr_all rfl) (by rfl) z_all (by decide +kernel) (pa_cons (pe_lc (own := [("item", 2)]) (by rfl) sc.nd (pi_list (pv 0)) (blkOk_by (own := [("item", 2)]) (N := ["value", "cells", "item"]) (sc := defScope sis_row) (by decide +kernel)) (fun _ _ _ _ _ => (pg_name (i := 2) sc.nd rfl (by first | exact Or.inl rfl | exact Or.inr rfl))) (fun _ _ _ _ _ => pts_nil) (fun _ _ _ _ _ => (pe_c Cis_between hr (by omega) (by rfl) (pa_cons (pv 2) (pa_cons (pe_un un_neg (pe_glob (v := .int 9) (by rfl) c_ROW_LIMIT ⟨_, rfl⟩)) (pa_cons (pe_glob (v := .int 9) (by rfl) c_ROW_LIMIT ⟨_, rfl⟩) pa_nil)))))) pa_nil))))), ?_⟩
    have kd := kitB_isa d
    cases hb : isa d "list" with
    | false =>
      refine q_when (b := true) (et_or (a := true) (b := false) (et_is (et_not (et_B (ev_isi hd (ev_var rfl) kd.2.2.2.1))) (by rw [hb]; rfl)) fun h => (nomatch h)) (fun _ H1 e1 => ?_) (fun h => (nomatch h))
      rw [(rowD_list (c := c) hb).1] at q
      exact s_ret ev_c fun H2 e2 => q H2 (e1.trans e2)
    | true =>
      obtain ⟨a, xs, ds, rfl, rfl, hs, hx⟩ := isa_list_t hd hb
      obtain ⟨m, em, lx, gx⟩ := fit_list hf
      have lxs := dpa_len hx
      refine q_when (et_or (a := false) (et_is (et_not (et_B (ev_isi hd (ev_var rfl) kd.2.2.2.1))) (by rw [hb]; rfl)) fun _ => et_test (ev_op (ev_lenS (ev_var rfl) (.inl hs)) (ev_op (ev_var rfl) ev_c rv_I0) (rv_ne rfl))) (fun hl H1 e1 => ?_) (fun hl H1 e1 => ?_)
      · refine s_ret ev_c fun H2 e2 => ?_
        have z : false = rowD c (.list ds) := by
          have : ds.length ≠ c + 2 := fun e => by
            rw [lxs, e, Int.natCast_add] at hl
            simp at hl
          rw [rowD, decide_eq_false this]; rfl
        rw [z]
        exact q H2 (e1.trans e2)
      · refine s_ret (ev_allN (el_tests (btw (-9) 9) (ev_var rfl) (ex_l e1 hs) (dpa_ex e1 ds _ hx) lx (fun _ => rfl) fun v d H2 e2 hv => ev_spBtw (ev_var rfl) (ev_un ev_c ru_neg) ev_c hv)) fun H2 e2 => ?_
        have z : (ds.map (btw (-9) 9)).all id = rowD c (.list ds) := by
          have : ds.length = c + 2 := by
            have h2 : V.int (xs.length : Int) = V.int ((c : Int) + 2) := of_decide_eq_true (by simpa using hl)
            have := V.int.inj h2
            omega
          rw [all_map, rowD, decide_eq_true this, Bool.true_and]
        rw [z]
        exact q H2 (e1.trans e2)
def spPair (K : PySem.W.Frag) : Sp := fun vs H Q _ => ∃ (v : V) (d : PyData), vs = [v] ∧ Dp K H v d ∧ ∀ H', Ex H H' → Q (.bl (pairD d)) H'
theorem listD_isa (d : PyData) : listD d = isa d "list" := by
  rw [isa_list]; cases d <;> rfl
theorem ok_is_block_pair {f : Addr} {fd : FuncData} {k : Nat} (F : Fun K "is_block_pair" "is_block_pair" sis_block_pair f fd) (z_isinstance : mg "isinstance" = none) (z_list : mg "list" = none) (z_len : mg "len" = none) : FnOk P w K mg base CX0 (k + 1) f fd ["value"] (spPair K) := by
  have sc := scis_block_pair
  refine F.ok sc (fun vs H Q E h => ?_) (fun cdv A outer s H vs Q E hr h => ?_)
  · obtain ⟨v, d, rfl, _⟩ := h
    rfl
  · obtain ⟨v, d, rfl, hd, q⟩ := h
    refine ⟨_, (pss_cons (ps_if (PW.pt (pw_or (pt_not (pt_val (pe_callB call_isi (by rfl) z_isinstance (by decide +kernel) (pa_cons (pv 0) (pa_cons (pe_bltn (v := .ty "list") (by rfl) z_list (by decide +kernel) rfl) pa_nil))))) (pw_or1 (pt_cmpR op_ne (pe_callB call_len_seq (by rfl) z_len (by decide +kernel) (pa_cons (pv 0) pa_nil)) pe_int (nomark _)))))
      (pss_one (ps_ret pe_bl))
      pss_nil)
      (pss_one (ps_ret (pe_and (pe_callB call_isi (by rfl) z_isinstance (by decide +kernel) (pa_cons (pe_ix ix_list (pv 0) pe_int (fun _ _ => rfl)) (pa_cons (pe_bltn (v := .ty "list") (by rfl) z_list (by decide +kernel) rfl) pa_nil))) (pe_one (pe_callB call_isi (by rfl) z_isinstance (by decide +kernel) (pa_cons (pe_ix ix_list (pv 0) pe_int (fun _ _ => rfl)) (pa_cons (pe_bltn (v := .ty "list") (by rfl) z_list (by decide +kernel) rfl) pa_nil)))))))), ?_⟩
    have kd := kitB_isa d
    cases hb : isa d "list" with
    | false =>
      refine q_when (b := true) (et_or (a := true) (b := false) (et_is (et_not (et_B (ev_isi hd (ev_var rfl) kd.2.2.2.1))) (by rw [hb]; rfl)) fun h => (nomatch h)) (fun _ H1 e1 => ?_) (fun h => (nomatch h))
      rw [(rowD_list (c := 0) hb).2.2.1] at q
      exact s_ret ev_c fun H2 e2 => q H2 (e1.trans e2)
    | true =>
      obtain ⟨a, xs, ds, rfl, rfl, hs, hx⟩ := isa_list_t hd hb
      have lxs := dpa_len hx
      refine q_when (et_or (a := false) (et_is (et_not (et_B (ev_isi hd (ev_var rfl) kd.2.2.2.1))) (by rw [hb]; rfl)) fun _ => et_test (ev_op (ev_lenS (ev_var rfl) (.inl hs)) ev_c (rv_ne rfl))) (fun hl H1 e1 => ?_) (fun hl H1 e1 => ?_)
      · refine s_ret ev_c fun H2 e2 => ?_
        have z : false = pairD (.list ds) := by
          match ds, lxs with
          | [], _ => rfl
          | [_], _ => rfl
          | [_, _], h => rw [h] at hl; simp at hl
          | _ :: _ :: _ :: _, _ => rfl
        rw [z]
        exact q H2 (e1.trans e2)
      · have h2 : V.int (xs.length : Int) = V.int 2 := of_decide_eq_true (by simpa using hl)
        have h3 := V.int.inj h2
        match ds, hx, lxs with
        | [], _, h => exact absurd (show xs.length = 0 from h) (by omega)
        | [_], _, h => exact absurd (show xs.length = 1 from h) (by omega)
        | _ :: _ :: _ :: r, _, h => exact absurd (show xs.length = r.length + 1 + 1 + 1 from h) (by omega)
        | [d1, d2], .cons (v := v1) p1 (.cons (v := v2) p2 .nil), _ =>
          have k1 := kitB_isa d1
          have k2 := kitB_isa d2
          refine s_ret (ev_andV (ev_isi (dp_ex e1 _ _ p1) (ev_op (ev_var rfl) ev_c (rv_ixL (ex_l e1 hs) (atI_nat (j := 0) rfl))) k1.2.2.2.1) fun _ => ev_isi (dp_ex e1 _ _ p2) (ev_op (ev_var rfl) ev_c (rv_ixL (ex_l e1 hs) (atI_nat (j := 1) rfl))) k2.2.2.2.1) fun H2 e2 => ?_
          rw [← listD_isa, ← listD_isa]
          exact q H2 (e1.trans e2)
end
section
variable {P : Program} {w : World} {K : PySem.W.Frag} {mg : Str → Option Value} {base : Heap} {σ : L2.St} {H : Hp}
/-- the written dict of sizes -/
structure Sizes (K : PySem.W.Frag) (w : World) (a : Addr) (es : Array DictEntry) (n : Nat) (ok : Str → Prop) : Prop where
  d : KDict K w a es n
  yes : ∀ x m, ok x → szOf x = some m → ∃ t, PySem.W.nsIn K a x = some (some (.int (m : Int) t))
  no : ∀ x, ok x → szOf x = none → PySem.W.nsIn K a x = some none
/-- the first word is a known one -/
def wordOk (ok : Str → Prop) : PyData → Prop
  | .tuple (.str x :: _) => ok x
  | _ => True
def spSized (K : PySem.W.Frag) (ok : Str → Prop) : Sp := fun vs H Q _ => ∃ (v : V) (d : PyData), vs = [v] ∧ Dp K H v d ∧ wordOk ok d ∧ ∀ H', Ex H H' → Q (.bl (sizedD d)) H'
theorem et_truT {a : Addr} {xs : List V} {te : TE} (h : Ev te σ H (.ref a)) (hs : SqT K H a xs) : EvT (fun σ H Q => te σ H fun x H' => ∃ k, TruV K x H' k ∧ Q k H') σ H (!xs.isEmpty) := fun H1 e Q q =>
  h H1 e _ fun H2 e2 => ⟨_, .inr (.inl ⟨xs, ex_t (e.trans e2) hs, rfl⟩), q H2 e2⟩
theorem et_truL {a : Addr} {xs : List V} {te : TE} (h : Ev te σ H (.ref a)) (hs : SqL K H a xs) : EvT (fun σ H Q => te σ H fun x H' => ∃ k, TruV K x H' k ∧ Q k H') σ H (!xs.isEmpty) := fun H1 e Q q =>
  h H1 e _ fun H2 e2 => ⟨_, .inl ⟨xs, ex_l (e.trans e2) hs, rfl⟩, q H2 e2⟩
theorem rv_notInKd {a : Addr} {x : Str} {r : Option Value} (h : PySem.W.nsIn K a x = some r) : RV (fun x y H Q => ∃ (z : Str) (r : Option Value), x = .str z ∧ y = .ref a ∧ PySem.W.nsIn K a z = some r ∧ Q (.bl (!r.isSome)) H) (.str x) (.ref a) H (.bl (!r.isSome)) :=
  rv_val fun _ _ _ q => ⟨x, r, rfl, rfl, h, q⟩
theorem sizedD_no {d : PyData} (h : isa d "tuple" = false) : sizedD d = false := by
  rw [isa_tuple] at h
  cases d <;> first | rfl | cases h
theorem ok_is_sized {f : Addr} {fd : FuncData} {k : Nat} {a_SIZES : Addr} {es : Array DictEntry} {en : Nat} {ok : Str → Prop} (F : Fun K "is_sized" "is_sized" sis_sized f fd) (z_isinstance : mg "isinstance" = none) (z_tuple : mg "tuple" = none) (z_str : mg "str" = none) (z_len : mg "len" = none)
    (c_SIZES : mg "SIZES" = some (.ref a_SIZES)) (S : Sizes K w a_SIZES es en ok) : FnOk P w K mg base CX0 (k + 1) f fd ["value"] (spSized K ok) := by
  have sc := scis_sized
  refine F.ok sc (fun vs H Q E h => ?_) (fun cdv A outer s H vs Q E hr h => ?_)
  · obtain ⟨v, d, rfl, _⟩ := h
    rfl
  · obtain ⟨v, d, rfl, hd, hw, q⟩ := h
    refine ⟨_, (pss_cons (ps_if (PW.pt (pw_or (pt_not (pt_val (pe_callB call_isi (by rfl) z_isinstance (by decide +kernel) (pa_cons (pv 0) (pa_cons (pe_bltn (v := .ty "tuple") (by rfl) z_tuple (by decide +kernel) rfl) pa_nil))))) (pw_or1 (pt_not (pt_truth (pv 0) (by intro _; rfl))))))
      (pss_one (ps_ret pe_bl))
      pss_nil)
      (pss_cons (ps_if (PW.pt (pw_or (pt_not (pt_val (pe_callB call_isi (by rfl) z_isinstance (by decide +kernel) (pa_cons (pe_ix ix_tup (pv 0) pe_int (fun _ _ => rfl)) (pa_cons (pe_bltn (v := .ty "str") (by rfl) z_str (by decide +kernel) rfl) pa_nil))))) (pw_or1 (pt_cmpR (op_notIn_kd S.d) (pe_ix ix_tup (pv 0) pe_int (fun _ _ => rfl)) (pe_glob (v := .ref a_SIZES) (by rfl) c_SIZES rfl) (by rfl)))))
      (pss_one (ps_ret pe_bl))
      pss_nil)
      (pss_one (ps_ret (pe_cmpR op_eq (pe_callB call_len_seq (by rfl) z_len (by decide +kernel) (pa_cons (pv 0) pa_nil)) (pe_ix ix_kdict (pe_glob (v := .ref a_SIZES) (by rfl) c_SIZES rfl) (pe_ix ix_tup (pv 0) pe_int (fun _ _ => rfl)) (fun _ _ => rfl)) (nomark _)))))), ?_⟩
    have kd := kitB_isa d
    cases hb : isa d "tuple" with
    | false =>
      refine q_when (b := true) (et_or (a := true) (b := false) (et_is (et_not (et_B (ev_isi hd (ev_var rfl) kd.2.2.2.2))) (by rw [hb]; rfl)) fun h => (nomatch h)) (fun _ H1 e1 => ?_) (fun h => (nomatch h))
      rw [sizedD_no hb] at q
      exact s_ret ev_c fun H2 e2 => q H2 (e1.trans e2)
    | true =>
      obtain ⟨a, xs, ds, rfl, rfl, hs, hx⟩ := isa_tuple_t hd hb
      have lxs := dpa_len hx
      refine q_when (et_or (a := false) (et_is (et_not (et_B (ev_isi hd (ev_var rfl) kd.2.2.2.2))) (by rw [hb]; rfl)) fun _ => et_not (et_truT (ev_var rfl) hs)) (fun hl H1 e1 => ?_) (fun hl H1 e1 => ?_)
      · have hx0 : xs = [] := by cases xs with
          | nil => rfl
          | cons _ _ => simp at hl
        have hd0 : ds = [] := by
          rw [hx0] at lxs
          exact List.length_eq_zero_iff.mp lxs.symm
        subst hd0
        exact s_ret ev_c fun H2 e2 => q H2 (e1.trans e2)
      · match ds, hx, lxs with
        | [], .nil, _ => simp at hl
        | d0 :: dr, .cons (v := v0) (vs := vr) p0 pr, lxs =>
          have k0 := kitB_isa d0
          have it : ∀ H2, Ex H H2 → Ev (tOp (rIxT K) (tVar 0) (tC (.int 0))) [some (V.ref a)] H2 v0 := fun H2 e2 => ev_op (ev_var rfl) ev_c (rv_ixT (ex_t e2 hs) (atI_nat (j := 0) rfl))
          cases hs0 : isa d0 "str" with
          | false =>
            refine q_when (b := true) (et_or (a := true) (b := false) (et_is (et_not (et_B (ev_isi (dp_ex e1 _ _ p0) (it _ e1) k0.2.2.1))) (by rw [hs0]; rfl)) fun h => (nomatch h)) (fun _ H2 e2 => ?_) (fun h => (nomatch h))
            have z : sizedD (.tuple (d0 :: dr)) = false := by
              rw [isa_str] at hs0
              cases d0 <;> first | rfl | cases hs0
            rw [z] at q
            exact s_ret ev_c fun H3 e3 => q H3 ((e1.trans e2).trans e3)
          | true =>
            obtain ⟨x, rfl, rfl⟩ : ∃ x, v0 = .str x ∧ d0 = .str x := by
              rw [isa_str] at hs0
              cases p0 <;> first | exact ⟨_, rfl, rfl⟩ | cases hs0
            have hwx : ok x := hw
            cases hz : szOf x with
            | none =>
              have hno := S.no x hwx hz
              refine q_when (et_or (a := false) (b := true) (et_is (et_not (et_B (ev_isi (dp_ex e1 _ _ p0) (it _ e1) k0.2.2.1))) (by rw [hs0]; rfl)) fun _ => et_test (ev_op (it _ e1) ev_c (rv_notInKd hno))) (fun _ H2 e2 => ?_) (fun h => (nomatch h))
              have z : sizedD (.tuple (.str x :: dr)) = false := by rw [sizedD, hz]; rfl
              rw [z] at q
              exact s_ret ev_c fun H3 e3 => q H3 ((e1.trans e2).trans e3)
            | some m =>
              obtain ⟨t, hyes⟩ := S.yes x m hwx hz
              refine q_when (et_or (a := false) (b := false) (et_is (et_not (et_B (ev_isi (dp_ex e1 _ _ p0) (it _ e1) k0.2.2.1))) (by rw [hs0]; rfl)) fun _ => et_test (ev_op (it _ e1) ev_c (rv_notInKd hyes))) (fun h => (nomatch h)) (fun _ H2 e2 => ?_)
              have e12 := e1.trans e2
              refine s_ret (ev_op (ev_lenS (ev_var rfl) (.inr (ex_t e12 hs))) (ev_op ev_c (it _ e12) (rv_val (z := .int (m : Int)) fun _ _ _ q => ⟨a_SIZES, x, .int (m : Int), rfl, rfl, ⟨es, en, _, S.d.at_, S.d.lit, hyes, ⟨t, rfl⟩⟩, q⟩)) (rv_eq rfl)) fun H3 e3 => ?_
              have z : decide (V.int ((V.str x :: vr).length : Int) = V.int (m : Int)) = sizedD (.tuple (.str x :: dr)) := by
                rw [sizedD, hz]
                have l2 : (V.str x :: vr).length = dr.length + 1 := lxs
                rw [l2]
                by_cases e : m = dr.length + 1
                · rw [e, decide_eq_true rfl, decide_eq_true rfl]
                · rw [decide_eq_false fun h => e (by have := V.int.inj h; omega), decide_eq_false fun h => e (Option.some.inj h)]
              rw [z]
              exact q H3 (e12.trans e3)
end
/-! ### a tuple as a comprehension's target -/
section
variable {X : Cx}
theorem pg_tupK {K : PySem.W.Frag} {es : List Expr} {n k : Nat} {pos : Pos} {t : TGs} (hK : X.K = K) (hc : X.calm = true) (h : PGs X es t)
    (hn : (assignEach es X.env).length = n := by rfl) (hst : (assignEach es X.env).findIdx? (·.1) = none := by rfl) : PG X (.Tuple es k pos) (gTup K n t) := by
  subst hK
  exact pg_tup hc h hn hst
end
section
variable {P : Program} {w : World} {K : PySem.W.Frag} {mg : Str → Option Value} {base : Heap} {σ : L2.St} {H : Hp}
theorem cut1 (xs : List V) : cutV xs (some 1) none = xs.drop 1 := by
  unfold cutV
  rw [show HT.sIx xs.length 0 (some 1) = min 1 xs.length from HT.sIx_nat xs.length 0 1, HT.sIx_none]
  cases xs with
  | nil => rfl
  | cons x r =>
    rw [show min 1 (x :: r).length = 1 by rw [List.length_cons]; omega]
    show (List.take ((x :: r).length - 1) r) = r
    rw [List.length_cons, Nat.add_sub_cancel]
    exact List.take_length
theorem all_btw {lo hi : Int} : ∀ {ds : List PyData}, ds.all (btw lo hi) = true → ∃ ns : List Int, ds = ns.map PyData.int
  | [], _ => ⟨[], rfl⟩
  | d :: r, h => by
    rw [List.all_cons, Bool.and_eq_true] at h
    obtain ⟨ns, e⟩ := all_btw h.2
    cases d with
    | int i => exact ⟨i :: ns, by rw [e]; rfl⟩
    | _ => cases h.1
theorem dpa_ofInts : ∀ {xs : List V} {ns : List Int}, DpAll K H xs (ns.map PyData.int) → xs = ns.map V.int
  | _, [], .nil => rfl
  | _, n :: r, .cons a b => by
    cases a
    rw [dpa_ofInts b]; rfl
def lessAt (ns : List Int) (i : Nat) : Bool := decide (ns.getD i 0 < ns.getD (i + 1) 0)
theorem up_ints : ∀ ns : List Int, ((List.range (ns.length - 1)).map (lessAt ns)).all id = up (ns.map PyData.int)
  | [] => rfl
  | [a] => rfl
  | a :: b :: r => by
    have ih := up_ints (b :: r)
    show ((List.range (r.length + 1)).map (lessAt (a :: b :: r))).all id = (decide (a < b) && up ((b :: r).map PyData.int))
    rw [← ih, List.range_succ_eq_map, List.map_cons, List.all_cons, List.map_map]
    rfl
def spCl (K : PySem.W.Frag) : Sp := fun vs H Q _ => ∃ (v : V) (d : PyData) (c n : Nat), vs = [v, .int (c : Int)] ∧ Dp K H v d ∧ fit d n = true ∧ ∀ H', Ex H H' → Q (.bl (cellsD c d)) H'
theorem ev_spCl {te t1 : TE} {E : XK} {v : V} {d : PyData} {c n : Nat} (h : Ev te σ H v) (h1 : Ev t1 σ H (.int (c : Int))) (hd : Dp K H v d) (hf : fit d n = true) : Ev (tCall (spCl K) [] E (tCons te (tCons t1 tNil))) σ H (.bl (cellsD c d)) :=
  ev_call (ea_cons h (ea_cons h1 ea_nil)) fun H1 e Q q _ => ⟨v, d, c, n, rfl, dp_ex e d v hd, hf, q⟩
theorem ok_is_cell_list {f : Addr} {fd : FuncData} {k : Nat} (F : Fun K "is_cell_list" "is_cell_list" sis_cell_list f fd) (z_isinstance : mg "isinstance" = none) (z_list : mg "list" = none) (z_all : mg "all" = none) (z_zip : mg "zip" = none) (Cis_index : Cal P w K mg base 3 "is_index" (spIx K) []) (hk : 3 ≤ k) :
    FnOk P w K mg base CX0 (k + 1) f fd ["value", "cells"] (spCl K) := by
  have sc := scis_cell_list
  refine F.ok sc (fun vs H Q E h => ?_) (fun cdv A outer s H vs Q E hr h => ?_)
  · obtain ⟨v, d, c, n, rfl, _⟩ := h
    rfl
  · obtain ⟨v, d, c, n, rfl, hd, hf, q⟩ := h
    refine ⟨_, (pss_cons (ps_if (pt_not (pt_val (pe_callB call_isi (by rfl) z_isinstance (by decide +kernel) (pa_cons (pv 0) (pa_cons (pe_bltn (v := .ty "list") (by rfl) z_list (by decide +kernel) rfl) pa_nil)))))
      (pss_one (ps_ret pe_bl))
      pss_nil)
      (pss_cons (ps_if (pt_not (pt_val (pe_callB (cr_all rfl) (by rfl) z_all (by decide +kernel) (pa_cons (pe_lc (own := [("cell", 4)]) (by rfl) sc.nd (pi_list (pv 0)) (blkOk_by (own := [("cell", 4)]) (N := ["value", "cells", "one", "other", "cell"]) (sc := defScope sis_cell_list) (by decide +kernel)) (fun _ _ _ _ _ => (pg_name (i := 4) sc.nd rfl (by first | exact Or.inl rfl | exact Or.inr rfl))) (fun _ _ _ _ _ => pts_nil) (fun _ _ _ _ _ => (pe_c Cis_index hr (by omega) (by rfl) (pa_cons (pv 4) (pa_cons (pv 1) pa_nil))))) pa_nil))))
      (pss_one (ps_ret pe_bl))
      pss_nil)
      (pss_one (ps_ret (pe_callB (cr_all rfl) (by rfl) z_all (by decide +kernel) (pa_cons (pe_lc (own := [("one", 2), ("other", 3)]) (by rfl) sc.nd (pi_zip (by rfl) z_zip (pa_cons (pv 0) (pa_cons (pe_slice sl_list (pv 0) (po_some pe_int) po_none) pa_nil))) (blkOk_by (own := [("one", 2), ("other", 3)]) (N := ["value", "cells", "one", "other", "cell"]) (sc := defScope sis_cell_list) (by decide +kernel)) (fun _ _ _ _ _ => (pg_tupK (K := K) (n := 2) rfl rfl (pgs_cons (pg_name (i := 2) sc.nd rfl (by first | exact Or.inl rfl | exact Or.inr rfl)) (pgs_cons (pg_name (i := 3) sc.nd rfl (by first | exact Or.inl rfl | exact Or.inr rfl)) pgs_nil)))) (fun _ _ _ _ _ => pts_nil) (fun _ _ _ _ _ => (pe_cmpR op_lt (pv 2) (pv 3) (nomark _)))) pa_nil)))))), ?_⟩
    have kd := kitB_isa d
    refine q_when (et_not (et_B (ev_isi hd (ev_var rfl) kd.2.2.2.1))) (fun hb H1 e1 => ?_) (fun hb H1 e1 => ?_)
    · rw [Bool.not_eq_true'] at hb
      rw [(rowD_list (c := c) hb).2.1] at q
      exact s_ret ev_c fun H2 e2 => q H2 (e1.trans e2)
    rw [Bool.not_eq_false'] at hb
    obtain ⟨a, xs, ds, rfl, rfl, hs, hx⟩ := isa_list_t hd hb
    obtain ⟨m, em, lx, gx⟩ := fit_list hf
    have lxs := dpa_len hx
    refine q_when (et_not (et_B (ev_allN (el_tests (btw 0 ((c : Int) - 1)) (ev_var rfl) (ex_l e1 hs) (dpa_ex e1 ds _ hx) lx (fun _ => rfl) fun v d H2 e2 hv => ev_spIx (ev_var rfl) (ev_var rfl) hv)))) (fun hc H2 e2 => ?_) (fun hc H2 e2 => ?_)
    · rw [Bool.not_eq_true', all_map] at hc
      rw [cellsD, hc] at q
      exact s_ret ev_c fun H3 e3 => q H3 ((e1.trans e2).trans e3)
    rw [Bool.not_eq_false', all_map] at hc
    have e12 := e1.trans e2
    rw [cellsD, hc, Bool.true_and] at q
    obtain ⟨ns, rfl⟩ := all_btw hc
    obtain rfl := dpa_ofInts hx
    rw [List.length_map] at lxs lx
    have hs2 := ex_l e12 hs
    refine s_retR (cb_1 ?_)
    refine ⟨.ref a, rfl, .ref a, rfl, 1, rfl, a, ns.map V.int, rfl, hs2, fun C nC => ?_⟩
    rw [cut1, ← List.map_drop]
    have eC := Ex.new (o := .lst ((ns.drop 1).map V.int)) nC
    have e3 := e12.trans eC
    refine ⟨a, C, ns.map V.int, (ns.drop 1).map V.int, rfl, ex_l eC hs2, sq_of upd_same, fun D nD => ?_⟩
    refine lc_it (walk_zip (n := ns.length - 1) (xs := ns.map V.int) (ys := (ns.drop 1).map V.int) (by rw [List.length_map, List.length_map, List.length_drop]; omega)) (fun i H' => Ex (upd H2 C (.lst ((ns.drop 1).map V.int))) H' ∧ H' D = some (.lst (((List.range i).map (lessAt ns)).map V.bl)))
      ⟨Ex.new nD, upd_same⟩ (fun i H' _ p => ⟨ex_l (eC.trans p.1) hs2, sq_of (p.1 _ _ upd_same)⟩) (fun i v H' H3 hi p y => ?_) (fun H' p => ?_)
    · obtain ⟨p1, p2⟩ := p
      obtain ⟨T, x, z, rfl, nT, rfl, hx, hz⟩ := y
      have h1 : i < ns.length := by omega
      have h2 : i + 1 < ns.length := by omega
      have hx : (ns.map V.int)[i]? = some x := hx
      have hz : ((ns.drop 1).map V.int)[i]? = some z := hz
      rw [List.getElem?_map, List.getElem?_eq_getElem h1] at hx
      have hx : V.int ns[i] = x := Option.some.inj hx
      subst hx
      rw [List.getElem?_map, List.getElem?_drop, Nat.add_comm 1 i, List.getElem?_eq_getElem h2] at hz
      have hz : V.int ns[i + 1] = z := Option.some.inj hz
      subst hz
      refine ⟨T, [.int ns[i], .int ns[i + 1]], rfl, .inl (.inl upd_same), rfl, .int ns[i], [.int ns[i + 1]], rfl, .int ns[i + 1], [], rfl, rfl, ?_⟩
      refine ⟨rfl, .int ns[i], rfl, .int ns[i + 1], rfl, ns[i], ns[i + 1], rfl, rfl, _, Ex.new nT _ _ p2, ?_, (p1.trans (Ex.new nT)).mut nD, ?_⟩
      · rw [List.length_map, List.length_map, List.length_range]; exact sz_lt (by omega)
      · rw [upd_same, List.range_succ, List.map_append, List.map_append]
        have : decide (ns[i] < ns[i + 1]) = lessAt ns i := by
          rw [lessAt, List.getD_eq_getElem?_getD, List.getD_eq_getElem?_getD, List.getElem?_eq_getElem h1, List.getElem?_eq_getElem h2]
          rfl
        exact congrArg (fun b => some (HO.lst (((List.range i).map (lessAt ns)).map V.bl ++ [V.bl b]))) this
    · refine ⟨D, _, rfl, sq_of p.2, ?_⟩
      rw [up_ints]
      exact q H' (e3.trans p.1)
/-! ### statements -/
theorem sized_cases {d : PyData} (h : sizedD d = true) : (∃ a, d = .tuple [.str "carry", a]) ∨ (∃ a, d = .tuple [.str "again", a]) ∨ (∃ a, d = .tuple [.str "end", a]) ∨ (∃ a b, d = .tuple [.str "set", a, b]) ∨ (∃ a b, d = .tuple [.str "keep", a, b]) ∨
    (∃ a b, d = .tuple [.str "either", a, b]) ∨ ∃ a b e, d = .tuple [.str "call", a, b, e] := by
  match d, h with
  | .tuple (.str x :: r), h =>
    rw [sizedD, decide_eq_true_eq] at h
    unfold szOf at h
    split at h
    · rename_i e; subst e
      match r, h with
      | [a, b], _ => exact .inr (.inr (.inr (.inl ⟨a, b, rfl⟩)))
      | [], h | [_], h | _ :: _ :: _ :: _, h => simp at h
    · split at h
      · rename_i e; subst e
        match r, h with
        | [a], _ => exact .inl ⟨a, rfl⟩
        | [], h | _ :: _ :: _, h => simp at h
      · split at h
        · rename_i e; subst e
          match r, h with
          | [a, b], _ => exact .inr (.inr (.inr (.inr (.inl ⟨a, b, rfl⟩))))
          | [], h | [_], h | _ :: _ :: _ :: _, h => simp at h
        · split at h
          · rename_i e; subst e
            match r, h with
            | [a, b], _ => exact .inr (.inr (.inr (.inr (.inr (.inl ⟨a, b, rfl⟩)))))
            | [], h | [_], h | _ :: _ :: _ :: _, h => simp at h
          · split at h
            · rename_i e; subst e
              match r, h with
              | [a], _ => exact .inr (.inl ⟨a, rfl⟩)
              | [], h | _ :: _ :: _, h => simp at h
            · split at h
              · rename_i e; subst e
                match r, h with
                | [a, b, e], _ => exact .inr (.inr (.inr (.inr (.inr (.inr ⟨a, b, e, rfl⟩)))))
                | [], h | [_], h | [_, _], h | _ :: _ :: _ :: _ :: _, h => simp at h
              · split at h
                · rename_i e; subst e
                  match r, h with
                  | [a], _ => exact .inr (.inr (.inl ⟨a, rfl⟩))
                  | [], h | _ :: _ :: _, h => simp at h
                · cases h
end
section
variable {P : Program} {w : World} {K : PySem.W.Frag} {mg : Str → Option Value} {base : Heap} {σ : L2.St} {H : Hp}
theorem szw : szOf "set" = some 3 ∧ szOf "carry" = some 2 ∧ szOf "keep" = some 3 ∧ szOf "either" = some 3 ∧ szOf "again" = some 2 ∧ szOf "call" = some 4 ∧ szOf "end" = some 2 := by decide
theorem stm_sized {c m : Nat} {d : PyData} (h : sizedD d = false) : stmD c m d = false := by
  cases e : stmD c m d with
  | false => rfl
  | true =>
    exfalso
    unfold stmD at e
    split at e
    · split at e
      · rename_i h1; subst h1; simp [sizedD, szw] at h
      · split at e
        · rename_i h1; subst h1; simp [sizedD, szw] at h
        · split at e
          · rename_i h1; subst h1; simp [sizedD, szw] at h
          · cases e
    · split at e
      · rename_i h1; subst h1; simp [sizedD, szw] at h
      · split at e
        · rename_i h1; subst h1; simp [sizedD, szw] at h
        · split at e
          · rename_i h1; subst h1; simp [sizedD, szw] at h
          · cases e
    · split at e
      · rename_i h1; subst h1; simp [sizedD, szw] at h
      · cases e
    · cases e
theorem ev_spSized {te : TE} {E : XK} {v : V} {d : PyData} {ok : Str → Prop} (h : Ev te σ H v) (hd : Dp K H v d) (hw : wordOk ok d) : Ev (tCall (spSized K ok) [] E (tCons te tNil)) σ H (.bl (sizedD d)) :=
  ev_call (ea_cons h ea_nil) fun H1 e Q q _ => ⟨v, d, rfl, dp_ex e d v hd, hw, q⟩
theorem ev_spPair {te : TE} {E : XK} {v : V} {d : PyData} (h : Ev te σ H v) (hd : Dp K H v d) : Ev (tCall (spPair K) [] E (tCons te tNil)) σ H (.bl (pairD d)) :=
  ev_call (ea_cons h ea_nil) fun H1 e Q q _ => ⟨v, d, rfl, dp_ex e d v hd, q⟩
def spStm (K : PySem.W.Frag) (ok : Str → Prop) : Sp := fun vs H Q _ => ∃ (v : V) (d : PyData) (c m n : Nat), vs = [v, .int (c : Int), .int (m : Int)] ∧ Dp K H v d ∧ fit d n = true ∧ wordOk ok d ∧ ∀ H', Ex H H' → Q (.bl (stmD c m d)) H'
theorem ev_spStm {te t1 t2 : TE} {E : XK} {v : V} {d : PyData} {ok : Str → Prop} {c m n : Nat} (h : Ev te σ H v) (h1 : Ev t1 σ H (.int (c : Int))) (h2 : Ev t2 σ H (.int (m : Int))) (hd : Dp K H v d) (hf : fit d n = true) (hw : wordOk ok d) : Ev (tCall (spStm K ok) [] E (tCons te (tCons t1 (tCons t2 tNil)))) σ H (.bl (stmD c m d)) :=
  ev_call (ea_cons h (ea_cons h1 (ea_cons h2 ea_nil))) fun H1 e Q q _ => ⟨v, d, c, m, n, rfl, dp_ex e d v hd, hf, hw, q⟩
theorem ev_at {tl : TE} {a : Addr} {xs : List V} {j : Nat} {v : V} (h : Ev tl σ H (.ref a)) (hs : SqT K H a xs) (hx : xs[j]? = some v) : Ev (tOp (rIxT K) tl (tC (.int (j : Int)))) σ H v := ev_op h ev_c (rv_ixT hs (atI_nat hx))
theorem dp_tup {v : V} {ds : List PyData} (h : Dp K H v (.tuple ds)) : ∃ a xs, v = .ref a ∧ SqT K H a xs ∧ DpAll K H xs ds := by
  cases h with
  | tup s a => exact ⟨_, _, rfl, s, a⟩
theorem dpa1 {xs : List V} {d : PyData} {r : List PyData} (h : DpAll K H xs (d :: r)) : ∃ v vr, xs = v :: vr ∧ Dp K H v d ∧ DpAll K H vr r := by
  cases h with
  | cons a b => exact ⟨_, _, rfl, a, b⟩
theorem dpa0 {xs : List V} (h : DpAll K H xs []) : xs = [] := by cases h; rfl
theorem dp_str {v : V} {x : Str} (h : Dp K H v (.str x)) : v = .str x := by cases h; rfl
/-- the items of a statement of two, three or four -/
theorem items2 {v : V} {x : Str} {a : PyData} (h : Dp K H v (.tuple [.str x, a])) : ∃ t va, v = .ref t ∧ SqT K H t [.str x, va] ∧ Dp K H va a := by
  obtain ⟨t, xs, rfl, s, hx⟩ := dp_tup h
  obtain ⟨v0, r0, rfl, p0, q0⟩ := dpa1 hx
  obtain ⟨v1, r1, rfl, p1, q1⟩ := dpa1 q0
  rw [dpa0 q1, dp_str p0] at s
  exact ⟨t, v1, rfl, s, p1⟩
theorem items3 {v : V} {x : Str} {a b : PyData} (h : Dp K H v (.tuple [.str x, a, b])) : ∃ t va vb, v = .ref t ∧ SqT K H t [.str x, va, vb] ∧ Dp K H va a ∧ Dp K H vb b := by
  obtain ⟨t, xs, rfl, s, hx⟩ := dp_tup h
  obtain ⟨v0, r0, rfl, p0, q0⟩ := dpa1 hx
  obtain ⟨v1, r1, rfl, p1, q1⟩ := dpa1 q0
  obtain ⟨v2, r2, rfl, p2, q2⟩ := dpa1 q1
  rw [dpa0 q2, dp_str p0] at s
  exact ⟨t, v1, v2, rfl, s, p1, p2⟩
theorem items4 {v : V} {x : Str} {a b c : PyData} (h : Dp K H v (.tuple [.str x, a, b, c])) : ∃ t va vb vc, v = .ref t ∧ SqT K H t [.str x, va, vb, vc] ∧ Dp K H va a ∧ Dp K H vb b ∧ Dp K H vc c := by
  obtain ⟨t, xs, rfl, s, hx⟩ := dp_tup h
  obtain ⟨v0, r0, rfl, p0, q0⟩ := dpa1 hx
  obtain ⟨v1, r1, rfl, p1, q1⟩ := dpa1 q0
  obtain ⟨v2, r2, rfl, p2, q2⟩ := dpa1 q1
  obtain ⟨v3, r3, rfl, p3, q3⟩ := dpa1 q2
  rw [dpa0 q3, dp_str p0] at s
  exact ⟨t, v1, v2, v3, rfl, s, p1, p2, p3⟩
theorem fit_items {ds : List PyData} {n : Nat} (h : fit (.tuple ds) n = true) : ∃ m, ∀ d ∈ ds, fit d m = true := by
  obtain ⟨m, _, _, g⟩ := fit_tuple h
  exact ⟨m, fun d hd => fitAll_mem g hd⟩
/-- a chain of tests of the word: what the word is not is passed by -/
theorem q_word {D : Ends} {tr tz : TS} {i : Nat} {x y : Str} (hσ : σ[i]? = some (some (.str x))) (hne : decide (V.str x = V.str y) = false) (k : ∀ H1, Ex H H1 → tz D σ H1) : tSeq (tIfS (tTest (tOp rEq (tVar i) (tC (.str y)))) tr tNext) tz D σ H :=
  q_when (et_test (ev_op (ev_var hσ) ev_c (rv_eq rfl))) (fun h => by rw [hne] at h; cases h) fun _ H1 e => k H1 e
theorem q_word1 {D : Ends} {tr tz : TS} {i : Nat} {x : Str} (hσ : σ[i]? = some (some (.str x))) (k : ∀ H1, Ex H H1 → tr { D with nx := tz D } σ H1) : tSeq (tIfS (tTest (tOp rEq (tVar i) (tC (.str x)))) tr tNext) tz D σ H :=
  q_when (et_test (ev_op (ev_var hσ) ev_c (rv_eq rfl))) (fun _ H1 e => k H1 e) fun h => by rw [decide_eq_true rfl] at h; cases h
theorem ok_is_statement {f : Addr} {fd : FuncData} {k : Nat} {ok : Str → Prop} (F : Fun K "is_statement" "is_statement" sis_statement f fd) (z_isinstance : mg "isinstance" = none) (z_list : mg "list" = none) (Cis_sized : Cal P w K mg base 1 "is_sized" (spSized K ok) []) (Cis_index : Cal P w K mg base 3 "is_index" (spIx K) [])
    (Cis_bit : Cal P w K mg base 3 "is_bit" (spBit K) []) (Cis_row : Cal P w K mg base 3 "is_row" (spRw K) []) (Cis_cell_list : Cal P w K mg base 4 "is_cell_list" (spCl K) []) (Cis_block_pair : Cal P w K mg base 1 "is_block_pair" (spPair K) []) (hk : 4 ≤ k) :
    FnOk P w K mg base CX0 (k + 1) f fd ["value", "cells", "procedures"] (spStm K ok) := by
  have sc := scis_statement
  refine F.ok sc (fun vs H Q E h => ?_) (fun cdv A outer s H vs Q E hr h => ?_)
  · obtain ⟨v, d, c, m, n, rfl, _⟩ := h
    rfl
  · obtain ⟨v, d, c, m, n, rfl, hd, hf, hw, q⟩ := h
    refine ⟨_, (pss_cons (ps_if (pt_not (pt_val (pe_c Cis_sized hr (by omega) (by rfl) (pa_cons (pv 0) pa_nil))))
      (pss_one (ps_ret pe_bl))
      pss_nil)
      (pss_cons (ps_set (i := 3) sc.nd rfl (by first | exact Or.inl rfl | exact Or.inr rfl) (pe_ix ix_tup (pv 0) pe_int (fun _ _ => rfl)))
      (pss_cons (ps_if (pt_cmpR op_eq (pv 3) pe_str (nomark _))
      (pss_one (ps_ret (pe_and (pe_c Cis_index hr (by omega) (by rfl) (pa_cons (pe_ix ix_tup (pv 0) pe_int (fun _ _ => rfl)) (pa_cons (pv 1) pa_nil))) (pe_one (pe_c Cis_row hr (by omega) (by rfl) (pa_cons (pe_ix ix_tup (pv 0) pe_int (fun _ _ => rfl)) (pa_cons (pv 1) pa_nil)))))))
      pss_nil)
      (pss_cons (ps_if (pt_cmpR op_eq (pv 3) pe_str (nomark _))
      (pss_one (ps_ret (pe_c Cis_row hr (by omega) (by rfl) (pa_cons (pe_ix ix_tup (pv 0) pe_int (fun _ _ => rfl)) (pa_cons (pv 1) pa_nil)))))
      pss_nil)
      (pss_cons (ps_if (pt_cmpR op_eq (pv 3) pe_str (nomark _))
      (pss_one (ps_ret (pe_and (pe_c Cis_cell_list hr (by omega) (by rfl) (pa_cons (pe_ix ix_tup (pv 0) pe_int (fun _ _ => rfl)) (pa_cons (pv 1) pa_nil))) (pe_one (pe_callB call_isi (by rfl) z_isinstance (by decide +kernel) (pa_cons (pe_ix ix_tup (pv 0) pe_int (fun _ _ => rfl)) (pa_cons (pe_bltn (v := .ty "list") (by rfl) z_list (by decide +kernel) rfl) pa_nil)))))))
      pss_nil)
      (pss_cons (ps_if (pt_cmpR op_eq (pv 3) pe_str (nomark _))
      (pss_one (ps_ret (pe_and (pe_callB call_isi (by rfl) z_isinstance (by decide +kernel) (pa_cons (pe_ix ix_tup (pv 0) pe_int (fun _ _ => rfl)) (pa_cons (pe_bltn (v := .ty "list") (by rfl) z_list (by decide +kernel) rfl) pa_nil))) (pe_one (pe_callB call_isi (by rfl) z_isinstance (by decide +kernel) (pa_cons (pe_ix ix_tup (pv 0) pe_int (fun _ _ => rfl)) (pa_cons (pe_bltn (v := .ty "list") (by rfl) z_list (by decide +kernel) rfl) pa_nil)))))))
      pss_nil)
      (pss_cons (ps_if (pt_cmpR op_eq (pv 3) pe_str (nomark _))
      (pss_one (ps_ret (pe_callB call_isi (by rfl) z_isinstance (by decide +kernel) (pa_cons (pe_ix ix_tup (pv 0) pe_int (fun _ _ => rfl)) (pa_cons (pe_bltn (v := .ty "list") (by rfl) z_list (by decide +kernel) rfl) pa_nil)))))
      pss_nil)
      (pss_cons (ps_if (pt_cmpR op_eq (pv 3) pe_str (nomark _))
      (pss_one (ps_ret (pe_and (pe_c Cis_index hr (by omega) (by rfl) (pa_cons (pe_ix ix_tup (pv 0) pe_int (fun _ _ => rfl)) (pa_cons (pv 2) pa_nil))) (pe_and (pe_c Cis_row hr (by omega) (by rfl) (pa_cons (pe_ix ix_tup (pv 0) pe_int (fun _ _ => rfl)) (pa_cons (pv 1) pa_nil))) (pe_one (pe_c Cis_block_pair hr (by omega) (by rfl) (pa_cons (pe_ix ix_tup (pv 0) pe_int (fun _ _ => rfl)) pa_nil)))))))
      pss_nil)
      (pss_one (ps_ret (pe_c Cis_bit hr (by omega) (by rfl) (pa_cons (pe_ix ix_tup (pv 0) pe_int (fun _ _ => rfl)) pa_nil)))))))))))), ?_⟩
    refine q_when (et_not (et_B (ev_spSized (ev_var rfl) hd hw))) (fun hb H1 e1 => ?_) (fun hb H1 e1 => ?_)
    · rw [Bool.not_eq_true'] at hb
      rw [stm_sized hb] at q
      exact s_ret ev_c fun H2 e2 => q H2 (e1.trans e2)
    rw [Bool.not_eq_false'] at hb
    have hd1 := dp_ex e1 _ _ hd
    rcases sized_cases hb with ⟨a, rfl⟩ | ⟨a, rfl⟩ | ⟨a, rfl⟩ | ⟨a, b, rfl⟩ | ⟨a, b, rfl⟩ | ⟨a, b, rfl⟩ | ⟨a, b, e, rfl⟩
    · -- carry
      obtain ⟨t, va, rfl, s, pa⟩ := items2 hd1
      obtain ⟨n', fa⟩ := fit_items hf
      refine q_asg (ev_at (j := 0) (ev_var rfl) s rfl) fun H2 e2 => ?_
      refine q_word rfl (by decide) fun H3 e3 => ?_
      refine q_word1 rfl fun H4 e4 => ?_
      have e24 := (e2.trans e3).trans e4
      exact s_ret (ev_spRw (ev_at (j := 1) (ev_var rfl) (ex_t e24 s) rfl) (ev_var rfl) (dp_ex e24 _ _ pa) (fa a (by simp))) fun H5 e5 => q H5 (e1.trans (e24.trans e5))
    · -- again
      obtain ⟨t, va, rfl, s, pa⟩ := items2 hd1
      refine q_asg (ev_at (j := 0) (ev_var rfl) s rfl) fun H2 e2 => ?_
      refine q_word rfl (by decide) fun H3 e3 => ?_
      refine q_word rfl (by decide) fun H4 e4 => ?_
      refine q_word rfl (by decide) fun H5 e5 => ?_
      refine q_word rfl (by decide) fun H6 e6 => ?_
      refine q_word1 rfl fun H7 e7 => ?_
      have e27 := ((((e2.trans e3).trans e4).trans e5).trans e6).trans e7
      refine s_ret (ev_isi (dp_ex e27 _ _ pa) (ev_at (j := 1) (ev_var rfl) (ex_t e27 s) rfl) (kitB_isa a).2.2.2.1) fun H8 e8 => ?_
      rw [← listD_isa]
      exact q H8 (e1.trans (e27.trans e8))
    · -- end
      obtain ⟨t, va, rfl, s, pa⟩ := items2 hd1
      refine q_asg (ev_at (j := 0) (ev_var rfl) s rfl) fun H2 e2 => ?_
      refine q_word rfl (by decide) fun H3 e3 => ?_
      refine q_word rfl (by decide) fun H4 e4 => ?_
      refine q_word rfl (by decide) fun H5 e5 => ?_
      refine q_word rfl (by decide) fun H6 e6 => ?_
      refine q_word rfl (by decide) fun H7 e7 => ?_
      refine q_word rfl (by decide) fun H8 e8 => ?_
      have e28 := (((((e2.trans e3).trans e4).trans e5).trans e6).trans e7).trans e8
      exact s_ret (ev_spBit (ev_at (j := 1) (ev_var rfl) (ex_t e28 s) rfl) (dp_ex e28 _ _ pa)) fun H9 e9 => q H9 (e1.trans (e28.trans e9))
    · -- set
      obtain ⟨t, va, vb, rfl, s, pa, pb⟩ := items3 hd1
      obtain ⟨n', fa⟩ := fit_items hf
      refine q_asg (ev_at (j := 0) (ev_var rfl) s rfl) fun H2 e2 => ?_
      refine q_word1 rfl fun H3 e3 => ?_
      have e23 := e2.trans e3
      exact s_ret (ev_andV (ev_spIx (ev_at (j := 1) (ev_var rfl) (ex_t e23 s) rfl) (ev_var rfl) (dp_ex e23 _ _ pa)) fun _ => ev_spRw (ev_at (j := 2) (ev_var rfl) (ex_t e23 s) rfl) (ev_var rfl) (dp_ex e23 _ _ pb) (fa b (by simp))) fun H4 e4 => q H4 (e1.trans (e23.trans e4))
    · -- keep
      obtain ⟨t, va, vb, rfl, s, pa, pb⟩ := items3 hd1
      obtain ⟨n', fa⟩ := fit_items hf
      refine q_asg (ev_at (j := 0) (ev_var rfl) s rfl) fun H2 e2 => ?_
      refine q_word rfl (by decide) fun H3 e3 => ?_
      refine q_word rfl (by decide) fun H4 e4 => ?_
      refine q_word1 rfl fun H5 e5 => ?_
      have e25 := ((e2.trans e3).trans e4).trans e5
      refine s_ret (ev_andV (ev_spCl (ev_at (j := 1) (ev_var rfl) (ex_t e25 s) rfl) (ev_var rfl) (dp_ex e25 _ _ pa) (fa a (by simp))) fun _ => ev_isi (dp_ex e25 _ _ pb) (ev_at (j := 2) (ev_var rfl) (ex_t e25 s) rfl) (kitB_isa b).2.2.2.1) fun H6 e6 => ?_
      rw [← listD_isa]
      exact q H6 (e1.trans (e25.trans e6))
    · -- either
      obtain ⟨t, va, vb, rfl, s, pa, pb⟩ := items3 hd1
      refine q_asg (ev_at (j := 0) (ev_var rfl) s rfl) fun H2 e2 => ?_
      refine q_word rfl (by decide) fun H3 e3 => ?_
      refine q_word rfl (by decide) fun H4 e4 => ?_
      refine q_word rfl (by decide) fun H5 e5 => ?_
      refine q_word1 rfl fun H6 e6 => ?_
      have e26 := (((e2.trans e3).trans e4).trans e5).trans e6
      refine s_ret (ev_andV (ev_isi (dp_ex e26 _ _ pa) (ev_at (j := 1) (ev_var rfl) (ex_t e26 s) rfl) (kitB_isa a).2.2.2.1) fun _ => ev_isi (dp_ex e26 _ _ pb) (ev_at (j := 2) (ev_var rfl) (ex_t e26 s) rfl) (kitB_isa b).2.2.2.1) fun H7 e7 => ?_
      rw [← listD_isa, ← listD_isa]
      exact q H7 (e1.trans (e26.trans e7))
    · -- call
      obtain ⟨t, va, vb, ve, rfl, s, pa, pb, pe⟩ := items4 hd1
      obtain ⟨n', fa⟩ := fit_items hf
      refine q_asg (ev_at (j := 0) (ev_var rfl) s rfl) fun H2 e2 => ?_
      refine q_word rfl (by decide) fun H3 e3 => ?_
      refine q_word rfl (by decide) fun H4 e4 => ?_
      refine q_word rfl (by decide) fun H5 e5 => ?_
      refine q_word rfl (by decide) fun H6 e6 => ?_
      refine q_word rfl (by decide) fun H7 e7 => ?_
      refine q_word1 rfl fun H8 e8 => ?_
      have e28 := (((((e2.trans e3).trans e4).trans e5).trans e6).trans e7).trans e8
      exact s_ret (ev_andV (ev_spIx (ev_at (j := 1) (ev_var rfl) (ex_t e28 s) rfl) (ev_var rfl) (dp_ex e28 _ _ pa)) fun _ => ev_andV (ev_spRw (ev_at (j := 2) (ev_var rfl) (ex_t e28 s) rfl) (ev_var rfl) (dp_ex e28 _ _ pb) (fa b (by simp))) fun _ => ev_spPair (ev_at (j := 3) (ev_var rfl) (ex_t e28 s) rfl) (dp_ex e28 _ _ pe)) fun H9 e9 => q H9 (e1.trans (e28.trans e9))
end
abbrev sentries : Stmt := topS 26
theorem scentries : FnScope ["block", "path", "index"] ["block", "path"] (defScope sentries) := ⟨rfl, rfl, rfl, by decide +kernel, rfl, by decide +kernel, by decide +kernel⟩
abbrev sfits : Stmt := topS 27
theorem scfits : FnScope ["value", "path", "cells", "procedures", "level"] ["value", "path", "cells", "procedures"] (defScope sfits) := ⟨rfl, rfl, rfl, by decide +kernel, rfl, by decide +kernel, by decide +kernel⟩
abbrev sfirst_fault : Stmt := topS 28
theorem scfirst_fault : FnScope ["body", "cells", "procedures", "waiting", "many", "path", "value", "blocks", "number"] ["body", "cells", "procedures"] (defScope sfirst_fault) := ⟨rfl, rfl, rfl, by decide +kernel, rfl, by decide +kernel, by decide +kernel⟩
open StX (tStar pa_star)
section
variable {X : Cx}
theorem pa_starK {K : PySem.W.Frag} {e : Expr} {es : List Expr} {te : TE} {t : TA} {p : Pos} (hK : X.K = K) (he : PE X e te) (hr : PA X es t) (hs : starEach (.Starred e p :: es) X.env = (true, eval e X.env) :: starEach es X.env := by rfl) : PA X (.Starred e p :: es) (tStar K te t) := by
  subst hK
  exact pa_star he hr hs
end
section
variable {P : Program} {w : World} {K : PySem.W.Frag} {mg : Str → Option Value} {base : Heap} {σ : L2.St} {H H' : Hp}
/-- the blocks of a statement, new list -/
def spBlocks (K : PySem.W.Frag) : Sp := fun vs H Q _ => ∃ (v : V) (d : PyData) (c m : Nat) (H0 : Hp), vs = [v] ∧ Ex H0 H ∧ Dp K H0 v d ∧ stmD c m d = true ∧ ∀ B bs H', H B = none → Ex H H' → H' B = some (.lst bs) → DpAll K H0 bs (blocksD d) → Q (.ref B) H'
theorem stm_yes {c m : Nat} {d : PyData} (h : stmD c m d = true) : sizedD d = true := by
  cases e : sizedD d with
  | true => rfl
  | false => rw [stm_sized e] at h; cases h
theorem isa_listD {d : PyData} (h : listD d = true) : isa d "list" = true := by rw [← listD_isa]; exact h
theorem pair_t {e : PyData} (h : pairD e = true) : ∃ x y, e = .list [x, y] := by
  match e, h with
  | .list [x, y], _ => exact ⟨x, y, rfl⟩
theorem dp_lst {v : V} {ds : List PyData} (h : Dp K H v (.list ds)) : ∃ a xs, v = .ref a ∧ SqL K H a xs ∧ DpAll K H xs ds := by
  cases h with
  | lst s a => exact ⟨_, _, rfl, s, a⟩
theorem ok_blocks_of {f : Addr} {fd : FuncData} {k : Nat} (F : Fun K "blocks_of" "blocks_of" sblocks_of f fd) : FnOk P w K mg base CX0 (k + 1) f fd ["statement"] (spBlocks K) := by
  have sc := scblocks_of
  refine F.ok sc (fun vs H Q E h => ?_) (fun cdv A outer s H vs Q E hr h => ?_)
  · obtain ⟨v, d, c, m, H0, rfl, _⟩ := h
    rfl
  · obtain ⟨v, d, c, m, H0, rfl, e0, hd, hst, q⟩ := h
    refine ⟨_, (pss_cons (ps_set (i := 1) sc.nd rfl (by first | exact Or.inl rfl | exact Or.inr rfl) (pe_ix ix_tup (pv 0) pe_int (fun _ _ => rfl)))
      (pss_cons (ps_if (pt_cmpR op_eq (pv 1) pe_str (nomark _))
      (pss_one (ps_ret (pe_lst (pa_cons (pe_ix ix_tup (pv 0) pe_int (fun _ _ => rfl)) pa_nil))))
      pss_nil)
      (pss_cons (ps_if (pt_cmpR op_eq (pv 1) pe_str (nomark _))
      (pss_one (ps_ret (pe_lst (pa_cons (pe_ix ix_tup (pv 0) pe_int (fun _ _ => rfl)) (pa_cons (pe_ix ix_tup (pv 0) pe_int (fun _ _ => rfl)) pa_nil)))))
      pss_nil)
      (pss_cons (ps_if (pt_cmpR op_eq (pv 1) pe_str (nomark _))
      (pss_one (ps_ret (pe_lst (pa_cons (pe_ix ix_tup (pv 0) pe_int (fun _ _ => rfl)) pa_nil))))
      pss_nil)
      (pss_cons (ps_if (pt_cmpR op_eq (pv 1) pe_str (nomark _))
      (pss_one (ps_ret (pe_lst (pa_cons (pe_ix ix_list (pe_ix ix_tup (pv 0) pe_int (fun _ _ => rfl)) pe_int (fun _ _ => rfl)) (pa_cons (pe_ix ix_list (pe_ix ix_tup (pv 0) pe_int (fun _ _ => rfl)) pe_int (fun _ _ => rfl)) pa_nil)))))
      pss_nil)
      (pss_one (ps_ret (pe_lst pa_nil)))))))), ?_⟩
    rcases sized_cases (stm_yes hst) with ⟨a, rfl⟩ | ⟨a, rfl⟩ | ⟨a, rfl⟩ | ⟨a, b, rfl⟩ | ⟨a, b, rfl⟩ | ⟨a, b, rfl⟩ | ⟨a, b, e, rfl⟩
    · obtain ⟨t, va, rfl, s, pa⟩ := items2 hd
      replace s := ex_t e0 s
      refine q_asg (ev_at (j := 0) (ev_var rfl) s rfl) fun H2 e2 => ?_
      refine q_word rfl (by decide) fun H3 e3 => ?_
      refine q_word rfl (by decide) fun H4 e4 => ?_
      refine q_word rfl (by decide) fun H5 e5 => ?_
      refine q_word rfl (by decide) fun H6 e6 => ?_
      have e26 := (((e2.trans e3).trans e4).trans e5).trans e6
      exact s_retL (el_lst ea_nil (by decide)) fun B H7 nB e7 hB => q B [] H7 (new_ex e26 nB) (e26.trans e7) hB .nil
    · obtain ⟨t, va, rfl, s, pa⟩ := items2 hd
      replace s := ex_t e0 s
      refine q_asg (ev_at (j := 0) (ev_var rfl) s rfl) fun H2 e2 => ?_
      refine q_word rfl (by decide) fun H3 e3 => ?_
      refine q_word rfl (by decide) fun H4 e4 => ?_
      refine q_word1 rfl fun H5 e5 => ?_
      have e25 := ((e2.trans e3).trans e4).trans e5
      exact s_retL (el_lst (ea_cons (ev_at (j := 1) (ev_var rfl) (ex_t e25 s) rfl) ea_nil) (by show 1 ≤ 100000; decide)) fun B H7 nB e7 hB => q B [va] H7 (new_ex e25 nB) (e25.trans e7) hB (.cons pa .nil)
    · obtain ⟨t, va, rfl, s, pa⟩ := items2 hd
      replace s := ex_t e0 s
      refine q_asg (ev_at (j := 0) (ev_var rfl) s rfl) fun H2 e2 => ?_
      refine q_word rfl (by decide) fun H3 e3 => ?_
      refine q_word rfl (by decide) fun H4 e4 => ?_
      refine q_word rfl (by decide) fun H5 e5 => ?_
      refine q_word rfl (by decide) fun H6 e6 => ?_
      have e26 := (((e2.trans e3).trans e4).trans e5).trans e6
      exact s_retL (el_lst ea_nil (by decide)) fun B H7 nB e7 hB => q B [] H7 (new_ex e26 nB) (e26.trans e7) hB .nil
    · obtain ⟨t, va, vb, rfl, s, pa, pb⟩ := items3 hd
      replace s := ex_t e0 s
      refine q_asg (ev_at (j := 0) (ev_var rfl) s rfl) fun H2 e2 => ?_
      refine q_word rfl (by decide) fun H3 e3 => ?_
      refine q_word rfl (by decide) fun H4 e4 => ?_
      refine q_word rfl (by decide) fun H5 e5 => ?_
      refine q_word rfl (by decide) fun H6 e6 => ?_
      have e26 := (((e2.trans e3).trans e4).trans e5).trans e6
      exact s_retL (el_lst ea_nil (by decide)) fun B H7 nB e7 hB => q B [] H7 (new_ex e26 nB) (e26.trans e7) hB .nil
    · obtain ⟨t, va, vb, rfl, s, pa, pb⟩ := items3 hd
      replace s := ex_t e0 s
      refine q_asg (ev_at (j := 0) (ev_var rfl) s rfl) fun H2 e2 => ?_
      refine q_word1 rfl fun H3 e3 => ?_
      have e23 := e2.trans e3
      exact s_retL (el_lst (ea_cons (ev_at (j := 2) (ev_var rfl) (ex_t e23 s) rfl) ea_nil) (by show 1 ≤ 100000; decide)) fun B H7 nB e7 hB => q B [vb] H7 (new_ex e23 nB) (e23.trans e7) hB (.cons pb .nil)
    · obtain ⟨t, va, vb, rfl, s, pa, pb⟩ := items3 hd
      replace s := ex_t e0 s
      refine q_asg (ev_at (j := 0) (ev_var rfl) s rfl) fun H2 e2 => ?_
      refine q_word rfl (by decide) fun H3 e3 => ?_
      refine q_word1 rfl fun H4 e4 => ?_
      have e24 := (e2.trans e3).trans e4
      exact s_retL (el_lst (ea_cons (ev_at (j := 1) (ev_var rfl) (ex_t e24 s) rfl) (ea_cons (ev_at (j := 2) (ev_var rfl) (ex_t e24 s) rfl) ea_nil)) (by show 2 ≤ 100000; decide)) fun B H7 nB e7 hB => q B [va, vb] H7 (new_ex e24 nB) (e24.trans e7) hB (.cons pa (.cons pb .nil))
    · obtain ⟨t, va, vb, ve, rfl, s, pa, pb, pe⟩ := items4 hd
      replace s := ex_t e0 s
      have hp : pairD e = true := by
        have : (btw 0 ((m : Int) - 1) a && (rowD c b && pairD e)) = true := hst
        rw [Bool.and_eq_true, Bool.and_eq_true] at this
        exact this.2.2
      obtain ⟨x, y, rfl⟩ := pair_t hp
      obtain ⟨L, xs, rfl, hs, hx⟩ := dp_lst pe
      obtain ⟨vx, r1, rfl, px, q1⟩ := dpa1 hx
      obtain ⟨vy, r2, rfl, py, q2⟩ := dpa1 q1
      rw [dpa0 q2] at hs
      replace hs := ex_l e0 hs
      refine q_asg (ev_at (j := 0) (ev_var rfl) s rfl) fun H2 e2 => ?_
      refine q_word rfl (by decide) fun H3 e3 => ?_
      refine q_word rfl (by decide) fun H4 e4 => ?_
      refine q_word rfl (by decide) fun H5 e5 => ?_
      refine q_word1 rfl fun H6 e6 => ?_
      have e26 := (((e2.trans e3).trans e4).trans e5).trans e6
      have sL := ex_l e26 hs
      exact s_retL (el_lst (ea_cons (ev_op (ev_at (j := 3) (ev_var rfl) (ex_t e26 s) rfl) ev_c (rv_ixL sL (atI_nat (j := 0) rfl))) (ea_cons (ev_op (ev_at (j := 3) (ev_var rfl) (ex_t e26 s) rfl) ev_c (rv_ixL sL (atI_nat (j := 1) rfl))) ea_nil)) (by show 2 ≤ 100000; decide)) fun B H7 nB e7 hB => q B [vx, vy] H7 (new_ex e26 nB) (e26.trans e7) hB (.cons px (.cons py .nil))
end
section
variable {P : Program} {w : World} {K : PySem.W.Frag} {mg : Str → Option Value} {base : Heap} {σ : L2.St} {H H' : Hp}
/-- x is a tuple of a path and a value -/
def EntT (K : PySem.W.Frag) (H : Hp) (x : V) (e : List Int × V) : Prop := ∃ t p, x = .ref t ∧ SqT K H t [.ref p, e.2] ∧ SqT K H p (e.1.map V.int)
theorem sqT_updL {a D : Addr} {xs l l' : List V} (h : SqT K H a xs) (hD : H D = some (.lst l)) : SqT K (upd H D (.lst l')) a xs := by
  rcases h with (h | ⟨o, h⟩) | h
  · exact .inl (.inl (by rw [upd_ne (ne_of h hD (by intro z; cases z))]; exact h))
  · exact .inl (.inr ⟨o, by rw [upd_ne (ne_of h hD (by intro z; cases z))]; exact h⟩)
  · exact .inr h
theorem entT_updL {D : Addr} {l l' : List V} {x : V} {e : List Int × V} (h : EntT K H x e) (hD : H D = some (.lst l)) : EntT K (upd H D (.lst l')) x e := by
  obtain ⟨t, p, rfl, h1, h2⟩ := h
  exact ⟨t, p, rfl, sqT_updL h1 hD, sqT_updL h2 hD⟩
theorem entT_ex {x : V} {e : List Int × V} (h : EntT K H x e) (k : Ex H H') : EntT K H' x e := by
  obtain ⟨t, p, rfl, h1, h2⟩ := h
  exact ⟨t, p, rfl, ex_t k h1, ex_t k h2⟩
abbrev Ents (K : PySem.W.Frag) (H : Hp) : List V → List (List Int × V) → Prop := Paired (EntT K H)
theorem ents_updL {D : Addr} {l l' : List V} {xs : List V} {es : List (List Int × V)} (h : Ents K H xs es) (hD : H D = some (.lst l)) : Ents K (upd H D (.lst l')) xs es := Paired.mapP h fun _ _ x => entT_updL x hD
theorem ents_ex {xs : List V} {es : List (List Int × V)} (h : Ents K H xs es) (k : Ex H H') : Ents K H' xs es := Paired.mapP h fun _ _ x => entT_ex x k
theorem paired_app {α β : Type} {F : α → β → Prop} : ∀ {a c : List α} {b d : List β}, Paired F a b → Paired F c d → Paired F (a ++ c) (b ++ d)
  | _, _, _, _, .nil, h => h
  | _, _, _, _, .cons x y, h => .cons x (paired_app y h)
theorem paired_len {α β : Type} {F : α → β → Prop} : ∀ {a : List α} {b : List β}, Paired F a b → a.length = b.length
  | _, _, .nil => rfl
  | _, _, .cons _ y => by rw [List.length_cons, List.length_cons, paired_len y]
/-- the entries of a block, the last first -/
def entsV (vs : List V) (path : List Int) : List (List Int × V) := (List.range vs.length).map fun i => (path ++ [((vs.length - 1 - i : Nat) : Int)], vs.getD (vs.length - 1 - i) .non)
def spEntries (K : PySem.W.Frag) : Sp := fun vs H Q _ => ∃ (b p : Addr) (xs : List V) (path : List Int), vs = [.ref b, .ref p] ∧ SqL K H b xs ∧ SqT K H p (path.map V.int) ∧ xs.length ≤ 10000 ∧ path.length ≤ 1000 ∧
  ∀ D ys H', H D = none → Ex H H' → H' D = some (.lst ys) → Ents K H' ys (entsV xs path) → Q (.ref D) H'
theorem ok_entries {f : Addr} {fd : FuncData} {k : Nat} (F : Fun K "entries" "entries" sentries f fd) (z_range : mg "range" = none) (z_reversed : mg "reversed" = none) (z_len : mg "len" = none) : FnOk P w K mg base CX0 (k + 1) f fd ["block", "path"] (spEntries K) := by
  have sc := scentries
  refine F.ok sc (fun vs H Q E h => ?_) (fun cdv A outer s H vs Q E hr h => ?_)
  · obtain ⟨b, p, xs, path, rfl, _⟩ := h
    rfl
  · obtain ⟨b, p, xs, path, rfl, hb, hp, hl, hpl, q⟩ := h
    refine ⟨_, (pss_one (ps_ret (pe_lc (own := [("index", 2)]) (by rfl) sc.nd (pi_revR (by rfl) z_reversed (prg_1 (by rfl) z_range (pe_callB call_len_seq (by rfl) z_len (by decide +kernel) (pa_cons (pv 0) pa_nil)))) (blkOk_by (own := [("index", 2)]) (N := ["block", "path", "index"]) (sc := defScope sentries) (by decide +kernel)) (fun _ _ _ _ _ => (pg_name (i := 2) sc.nd rfl (by first | exact Or.inl rfl | exact Or.inr rfl))) (fun _ _ _ _ _ => pts_nil) (fun _ _ _ _ _ => (pe_tup (pa_cons (pe_tup (pa_starK (K := K) rfl (pv 1) (pa_cons (pv 2) pa_nil))) (pa_cons (pe_ix (ix_list : IxR _ (rIxL K)) (pv 0) (pv 2) (fun _ _ => rfl)) pa_nil))))))), ?_⟩
    refine s_retR ?_
    refine ⟨.ref b, rfl, b, xs, rfl, .inl hb, (xs.length : Int), rfl, by omega, by omega, by omega, by omega, fun D nD => ?_⟩
    have hn : ((xs.length : Int) - 0).toNat = xs.length := by omega
    rw [hn]
    have wk := (walk_rangeC (lo := (0 : Int) + ((xs.length : Nat) : Int) - 1) (c := -1) (n := xs.length)).mono (G' := fun _ => True) (Y' := fun i H x H' => H' = H ∧ x = .int ((xs.length - 1 - i : Nat) : Int)) (fun _ _ => trivial) (fun i H x H' hi _ y => ⟨y.1, by rw [y.2]; exact congrArg V.int (by omega)⟩)
    refine lc_it wk (fun i H' => ∃ ys, Ex H H' ∧ H' D = some (.lst ys) ∧ Ents K H' ys ((entsV xs path).take i)) ⟨[], Ex.new nD, upd_same, .nil⟩ (fun _ _ _ _ => trivial) (fun i x H' H'' hi hP y => ?_) (fun H' hP => ?_)
    · obtain ⟨ys, e, hD, he⟩ := hP
      obtain ⟨rfl, rfl⟩ := y
      have hj : xs.length - 1 - i < xs.length := by omega
      show wipe ((wipe _ _).set 2 (some (.int ((xs.length - 1 - i : Nat) : Int)))) _ = wipe _ _ ∧ _
      refine ⟨rfl, .ref p, rfl, p, path.map V.int, rfl, .inl (ex_t e hp), .int ((xs.length - 1 - i : Nat) : Int), rfl, ?_, fun T nT => ?_⟩
      · have := small1000 (n := 1000) (Nat.le_refl _)
        have h2 := sz_of (n := (path.map V.int ++ [V.int ((xs.length - 1 - i : Nat) : Int)]).length) (by rw [List.length_append, List.length_map, List.length_singleton]; omega)
        exact h2
      have eT := Ex.new (o := .tup (path.map V.int ++ [V.int ((xs.length - 1 - i : Nat) : Int)])) nT
      refine ⟨.ref b, rfl, .int ((xs.length - 1 - i : Nat) : Int), rfl, b, xs, _, xs.getD (xs.length - 1 - i) .non, rfl, rfl, ex_l (e.trans eT) hb, atI_nat (by rw [List.getElem?_eq_getElem hj, List.getD_eq_getElem?_getD, List.getElem?_eq_getElem hj]; rfl), by show 2 ≤ sizeLine; decide, fun U nU => ?_⟩
      have eU := Ex.new (o := .tup [.ref T, xs.getD (xs.length - 1 - i) .non]) nU
      have e2 := (e.trans eT).trans eU
      have lys := paired_len he
      refine ⟨ys, eU _ _ (eT _ _ hD), ?_, ys ++ [.ref U], e2.mut nD, upd_same, ?_⟩
      · rw [lys, List.length_take]; exact sz_lt (by rw [entsV, List.length_map, List.length_range]; omega)
      · rw [List.take_add_one, show (entsV xs path)[i]? = some (path ++ [((xs.length - 1 - i : Nat) : Int)], xs.getD (xs.length - 1 - i) .non) by rw [entsV, List.getElem?_map, List.getElem?_range hi]; rfl]
        refine paired_app (ents_updL (ents_ex he (eT.trans eU)) (eU _ _ (eT _ _ hD))) (.cons ?_ .nil)
        refine entT_updL (l := ys) ⟨U, T, rfl, st_of upd_same, st_of (eU _ _ (by rw [upd_same, List.map_append]; rfl))⟩ (eU _ _ (eT _ _ hD))
    · obtain ⟨ys, e, hD, he⟩ := hP
      rw [List.take_of_length_le (by rw [entsV, List.length_map, List.length_range]; omega)] at he
      exact q D ys H' nD e hD he
end
/-! ### reading a body with a stack -/
def lastI (p : List Int) : Int := p.getD (p.length - 1) 0
def fitsD (c m : Nat) (p : List Int) (d : PyData) : Bool := !(decide (8 ≤ lastI p) || !stmD c m d) && (decide (p.length / 2 < 3) || (blocksD d).isEmpty)
def elems : PyData → List PyData
  | .list ds => ds
  | _ => []
/-- the items of a block in order, with their paths -/
def itemsD (p : List Int) (ds : List PyData) : List (List Int × PyData) := (List.range ds.length).map fun (i : Nat) => (p ++ [(i : Int)], ds.getD i .none)
/-- the blocks from the k-th on -/
def flatD (p : List Int) : Nat → List PyData → List (List Int × PyData)
  | _, [] => []
  | k, b :: r => itemsD (p ++ [(k : Int)]) (elems b) ++ flatD p (k + 1) r
def ffD (c m : Nat) : Nat → List (List Int × PyData) → Nat → Option (List Int)
  | 0, _, _ => none
  | _ + 1, [], _ => none
  | f + 1, (p, d) :: st, many => if (decide (12 < many + 1) || !fitsD c m p d) = true then some p else ffD c m f (flatD p 0 (blocksD d) ++ st) (many + 1)
def firstD (c m : Nat) (ds : List PyData) : Option (List Int) := ffD c m 13 (itemsD [] ds) 0
mutual
/-- every tuple's first word is known -/
def allW (ok : Str → Prop) : PyData → Prop
  | .list xs => allWs ok xs
  | .tuple xs => wordOk ok (.tuple xs) ∧ allWs ok xs
  | _ => True
def allWs (ok : Str → Prop) : List PyData → Prop
  | [] => True
  | x :: xs => allW ok x ∧ allWs ok xs
end
theorem allWs_mem {ok : Str → Prop} : ∀ {xs : List PyData} {x : PyData}, allWs ok xs → x ∈ xs → allW ok x
  | y :: r, x, h, hm => by
    rw [allWs] at h
    rcases List.mem_cons.mp hm with rfl | hm
    · exact h.1
    · exact allWs_mem h.2 hm
theorem allW_word {ok : Str → Prop} {d : PyData} (h : allW ok d) : wordOk ok d := by
  cases d with
  | tuple xs => rw [allW] at h; exact h.1
  | _ => trivial
/-- a statement's blocks are lists, and what stands in them is as good -/
theorem blocks_good {c m : Nat} {d : PyData} {ok : Str → Prop} (h : stmD c m d = true) (hf : ∃ n, fit d n = true) (hw : allW ok d) : ∀ b ∈ blocksD d, ∃ ds, b = .list ds ∧ ds.length ≤ 10000 ∧ (∃ n, ∀ e ∈ ds, fit e n = true) ∧ ∀ e ∈ ds, allW ok e := by
  obtain ⟨n, hf⟩ := hf
  have key : ∀ b : PyData, listD b = true → (∃ n, fit b n = true) → allW ok b → ∃ ds, b = .list ds ∧ ds.length ≤ 10000 ∧ (∃ n, ∀ e ∈ ds, fit e n = true) ∧ ∀ e ∈ ds, allW ok e := fun b hb hfb hwb => by
    obtain ⟨n, hfb⟩ := hfb
    cases b with
    | list ds =>
      obtain ⟨m, _, hl, hg⟩ := fit_list hfb
      rw [allW] at hwb
      exact ⟨ds, rfl, hl, ⟨m, fun e he => fitAll_mem hg he⟩, fun e he => allWs_mem hwb he⟩
    | _ => cases hb
  have items : ∀ xs : List PyData, d = .tuple xs → (∃ k, ∀ e ∈ xs, fit e k = true) ∧ ∀ e ∈ xs, allW ok e := fun xs e => by
    subst e
    obtain ⟨k, _, _, hg⟩ := fit_tuple hf
    rw [allW] at hw
    exact ⟨⟨k, fun e he => fitAll_mem hg he⟩, fun e he => allWs_mem hw.2 he⟩
  rcases sized_cases (stm_yes h) with ⟨a, rfl⟩ | ⟨a, rfl⟩ | ⟨a, rfl⟩ | ⟨a, b, rfl⟩ | ⟨a, b, rfl⟩ | ⟨a, b, rfl⟩ | ⟨a, b, e, rfl⟩
  · intro b hb
    have hb : b ∈ ([] : List PyData) := hb
    cases hb
  · obtain ⟨⟨k, hk⟩, hw2⟩ := items _ rfl
    intro b hb
    have hb : b ∈ [a] := hb
    rw [List.mem_singleton.mp hb]
    have hl : listD a = true := h
    exact key a hl ⟨k, hk a (by simp)⟩ (hw2 a (by simp))
  · intro b hb
    have hb : b ∈ ([] : List PyData) := hb
    cases hb
  · intro y hy
    have hy : y ∈ ([] : List PyData) := hy
    cases hy
  · obtain ⟨⟨k, hk⟩, hw2⟩ := items _ rfl
    intro y hy
    have hy : y ∈ [b] := hy
    rw [List.mem_singleton.mp hy]
    have hl : (cellsD c a && listD b) = true := h
    rw [Bool.and_eq_true] at hl
    exact key b hl.2 ⟨k, hk b (by simp)⟩ (hw2 b (by simp))
  · obtain ⟨⟨k, hk⟩, hw2⟩ := items _ rfl
    intro y hy
    have hy : y ∈ [a, b] := hy
    have hl : (listD a && listD b) = true := h
    rw [Bool.and_eq_true] at hl
    rcases List.mem_cons.mp hy with rfl | hy
    · exact key _ hl.1 ⟨k, hk _ (by simp)⟩ (hw2 _ (by simp))
    · rw [List.mem_singleton.mp hy]
      exact key b hl.2 ⟨k, hk b (by simp)⟩ (hw2 b (by simp))
  · obtain ⟨⟨k, hk⟩, hw2⟩ := items _ rfl
    have hl : (btw 0 ((m : Int) - 1) a && (rowD c b && pairD e)) = true := h
    rw [Bool.and_eq_true, Bool.and_eq_true] at hl
    obtain ⟨x, y, rfl⟩ := pair_t hl.2.2
    have hl : (listD x && listD y) = true := hl.2.2
    rw [Bool.and_eq_true] at hl
    obtain ⟨k2, _, _, hg⟩ := fit_list (hk (.list [x, y]) (by simp))
    have hw3 := hw2 (.list [x, y]) (by simp)
    rw [allW] at hw3
    intro z hz
    have hz : z ∈ [x, y] := hz
    rcases List.mem_cons.mp hz with rfl | hz
    · exact key _ hl.1 ⟨k2, fitAll_mem hg (by simp)⟩ (allWs_mem hw3 (by simp))
    · rw [List.mem_singleton.mp hz]
      exact key y hl.2 ⟨k2, fitAll_mem hg (by simp)⟩ (allWs_mem hw3 (by simp))
theorem blocks_len {d : PyData} : (blocksD d).length ≤ 2 := by
  unfold blocksD
  split
  · split <;> simp
  · split
    · simp
    · split <;> simp
  · split <;> simp
  · simp
theorem itemsD_len {p : List Int} {ds : List PyData} : (itemsD p ds).length = ds.length := by rw [itemsD, List.length_map, List.length_range]
section
variable {P : Program} {w : World} {K : PySem.W.Frag} {mg : Str → Option Value} {base : Heap} {σ : L2.St} {H H' : Hp}
def spFits (K : PySem.W.Frag) (ok : Str → Prop) : Sp := fun vs H Q _ => ∃ (v : V) (d : PyData) (p : Addr) (path : List Int) (c m n : Nat), vs = [v, .ref p, .int (c : Int), .int (m : Int)] ∧ Dp K H v d ∧ SqT K H p (path.map V.int) ∧ path ≠ [] ∧ path.length ≤ 1000 ∧ fit d n = true ∧ wordOk ok d ∧ ∀ H', Ex H H' → Q (.bl (fitsD c m path d)) H'
theorem ev_orV {ta tb : TE} {a b : Bool} (h1 : Ev ta σ H (.bl a)) (h2 : a = false → Ev tb σ H (.bl b)) : Ev (tOrV ta tb) σ H (.bl (a || b)) := fun H1 e Q q =>
  h1 H1 e _ fun H2 e2 => ⟨a, rfl, by
    cases a with
    | true => exact q H2 e2
    | false => exact h2 rfl H2 (e.trans e2) Q fun H3 e3 => q H3 (e2.trans e3)⟩
theorem ev_noBlocks {te : TE} {E : XK} {v : V} {d : PyData} {c m : Nat} (h : Ev te σ H v) (hd : Dp K H v d) (hst : stmD c m d = true) : Ev (tNotT K (tCall (spBlocks K) [] E (tCons te tNil))) σ H (.bl (blocksD d).isEmpty) := fun H1 e Q q =>
  h H1 e _ fun H2 e2 => ⟨v, d, c, m, H2, rfl, Ex.refl H2, dp_ex (e.trans e2) d v hd, hst, fun B bs H3 nB e3 hB hx => ⟨!bs.isEmpty, .inl ⟨bs, sq_of hB, rfl⟩, by
    have l := dpa_len hx
    have z : (!!bs.isEmpty) = (blocksD d).isEmpty := by
      rw [Bool.not_not]
      cases bs with
      | nil => cases hb : blocksD d with
        | nil => rfl
        | cons _ _ => rw [hb] at l; cases l
      | cons _ _ => cases hb : blocksD d with
        | nil => rw [hb] at l; cases l
        | cons _ _ => rfl
    rw [z]
    exact q H3 (e2.trans e3)⟩⟩
theorem lastI_snoc {p : List Int} (h : p ≠ []) : ∃ r, p = r ++ [lastI p] := by
  refine ⟨p.dropLast, ?_⟩
  have e := List.dropLast_concat_getLast h
  have l : lastI p = p.getLast h := by
    rw [lastI, List.getLast_eq_getElem, List.getD_eq_getElem?_getD, List.getElem?_eq_getElem (by have := List.length_pos_iff.mpr h; omega)]
    rfl
  rw [l]
  exact e.symm
theorem ok_fits {f : Addr} {fd : FuncData} {k : Nat} {ok : Str → Prop} {tk tl : Tok} (F : Fun K "fits" "fits" sfits f fd) (z_len : mg "len" = none) (c_LIST_LIMIT : mg "LIST_LIMIT" = some (.int 8 tk)) (c_LAST_LEVEL : mg "LAST_LEVEL" = some (.int 3 tl))
    (Cis_statement : Cal P w K mg base 5 "is_statement" (spStm K ok) []) (Cblocks_of : Cal P w K mg base 1 "blocks_of" (spBlocks K) []) (hk : 5 ≤ k) : FnOk P w K mg base CX0 (k + 1) f fd ["value", "path", "cells", "procedures"] (spFits K ok) := by
  have sc := scfits
  refine F.ok sc (fun vs H Q E h => ?_) (fun cdv A outer s H vs Q E hr h => ?_)
  · obtain ⟨v, d, p, path, c, m, n, rfl, _⟩ := h
    rfl
  · obtain ⟨v, d, p, path, c, m, n, rfl, hd, hp, hne, hpl, hf, hw, q⟩ := h
    refine ⟨_, (pss_cons (ps_if (PW.pt (pw_or (pt_cmpR op_ge (pe_ix ix_tup (pv 1) (pe_un un_neg pe_int) (fun _ _ => rfl)) (pe_glob (v := .int 8) (by rfl) c_LIST_LIMIT ⟨_, rfl⟩) (nomark _)) (pw_or1 (pt_not (pt_val (pe_c Cis_statement hr (by omega) (by rfl) (pa_cons (pv 0) (pa_cons (pv 2) (pa_cons (pv 3) pa_nil)))))))))
      (pss_one (ps_ret pe_bl))
      pss_nil)
      (pss_cons (ps_set (i := 4) sc.nd rfl (by first | exact Or.inl rfl | exact Or.inr rfl) (pe_op op_fdivN (pe_callB call_len_seq (by rfl) z_len (by decide +kernel) (pa_cons (pv 1) pa_nil)) pe_int))
      (pss_one (ps_ret (pe_or (pe_cmpR op_lt (pv 4) (pe_glob (v := .int 3) (by rfl) c_LAST_LEVEL ⟨_, rfl⟩) (nomark _)) (pe_one (pe_notT (pe_c Cblocks_of hr (by omega) (by rfl) (pa_cons (pv 0) pa_nil))))))))), ?_⟩
    obtain ⟨r, hr⟩ := lastI_snoc hne
    have hat : atI (path.map V.int) (-1) = some (.int (lastI path)) := by
      have e : path.map V.int = r.map V.int ++ [.int (lastI path)] := by
        rw [congrArg (List.map V.int) hr, List.map_append]; rfl
      rw [e]
      exact atI_last _ _
    refine q_when (et_or (et_test (ev_op (ev_op (ev_var rfl) (ev_un ev_c ru_neg) (rv_ixT hp hat)) ev_c rv_I0)) fun _ => et_not (et_B (ev_spStm (ev_var rfl) (ev_var rfl) (ev_var rfl) hd hf hw))) (fun hb H1 e1 => ?_) (fun hb H1 e1 => ?_)
    · refine s_ret ev_c fun H2 e2 => ?_
      have z : fitsD c m path d = false := by
        rw [fitsD, hb]; rfl
      rw [z] at q
      exact q H2 (e1.trans e2)
    · refine q_asg (ev_op (ev_lenS (ev_var rfl) (.inr (ex_t e1 hp))) ev_c (rv_I ⟨by decide, by decide⟩)) fun H2 e2 => ?_
      have hst : stmD c m d = true := by
        cases h : stmD c m d with
        | true => rfl
        | false => rw [h] at hb; simp at hb
      have e12 := e1.trans e2
      refine s_ret (ev_orV (ev_op (ev_var rfl) ev_c rv_I0) fun _ => ev_noBlocks (ev_var rfl) (dp_ex e12 _ _ hd) hst) fun H3 e3 => ?_
      have z : fitsD c m path d = (decide (((path.map V.int).length : Int).fdiv 2 < 3) || (blocksD d).isEmpty) := by
        rw [fitsD, hb, List.length_map]
        have : ((path.length : Int).fdiv 2 < 3) ↔ (path.length / 2 < 3) := by
          rw [show ((path.length : Int).fdiv 2) = ((path.length / 2 : Nat) : Int) from by rw [Int.fdiv_eq_ediv_of_nonneg _ (by decide)]; rfl]
          omega
        rw [decide_eq_decide.mpr this]; rfl
      rw [z] at q
      exact q H3 (e12.trans e3)
end
section
variable {P : Program} {w : World} {K : PySem.W.Frag} {mg : Str → Option Value} {base : Heap} {σ : L2.St} {H H' H0 : Hp}
def StkT (K : PySem.W.Frag) (H0 H : Hp) (x : V) (e : List Int × PyData) : Prop := ∃ v, EntT K H x (e.1, v) ∧ Dp K H0 v e.2
abbrev Stk (K : PySem.W.Frag) (H0 H : Hp) : List V → List (List Int × PyData) → Prop := Paired (StkT K H0 H)
theorem stk_ex {xs : List V} {es : List (List Int × PyData)} (h : Stk K H0 H xs es) (k : Ex H H') : Stk K H0 H' xs es := Paired.mapP h fun _ _ ⟨v, x, y⟩ => ⟨v, entT_ex x k, y⟩
theorem stk_updL {D : Addr} {l l' : List V} {xs : List V} {es : List (List Int × PyData)} (h : Stk K H0 H xs es) (hD : H D = some (.lst l)) : Stk K H0 (upd H D (.lst l')) xs es := Paired.mapP h fun _ _ ⟨v, x, y⟩ => ⟨v, entT_updL x hD, y⟩
theorem paired_of_get {α β : Type} {F : α → β → Prop} : ∀ {a : List α} {b : List β}, a.length = b.length → (∀ (i : Nat) (x : α) (y : β), a[i]? = some x → b[i]? = some y → F x y) → Paired F a b
  | [], [], _, _ => .nil
  | x :: a, y :: b, h, k => .cons (k 0 x y rfl rfl) (paired_of_get (by simpa using h) fun i x y hx hy => k (i + 1) x y hx hy)
theorem paired_get {α β : Type} {F : α → β → Prop} : ∀ {a : List α} {b : List β}, Paired F a b → ∀ {i : Nat} {x : α} {y : β}, a[i]? = some x → b[i]? = some y → F x y
  | _, _, .nil, i, x, y, h, _ => by simp at h
  | _, _, .cons h hr, 0, x, y, e, f => by
    cases e; cases f; exact h
  | _, _, .cons h hr, i + 1, x, y, e, f => paired_get hr (i := i) e f
theorem dpa_get {H : Hp} : ∀ {xs : List V} {ds : List PyData}, DpAll K H xs ds → ∀ {i : Nat} {d : PyData}, ds[i]? = some d → ∃ v, xs[i]? = some v ∧ Dp K H v d
  | _, _, .nil, i, d, h => by simp at h
  | _, _, .cons a r, 0, d, h => by cases h; exact ⟨_, rfl, a⟩
  | _, _, .cons a r, i + 1, d, h => dpa_get r (i := i) h
theorem itemsD_get {p : List Int} {ds : List PyData} {i : Nat} (h : i < ds.length) : (itemsD p ds)[i]? = some (p ++ [(i : Int)], ds.getD i .none) := by
  rw [itemsD, List.getElem?_map, List.getElem?_range h]; rfl
theorem getD_some {α : Type} {l : List α} {i : Nat} {x : α} (d : α) (h : l[i]? = some x) : l.getD i d = x := by
  rw [List.getD_eq_getElem?_getD, h]; rfl
theorem stk_ents {ys xs : List V} {ds : List PyData} {path : List Int} (h : Ents K H ys (entsV xs path)) (hx : DpAll K H0 xs ds) : Stk K H0 H ys (itemsD path ds).reverse := by
  have lx := dpa_len hx
  have ly := paired_len h
  rw [entsV, List.length_map, List.length_range] at ly
  refine paired_of_get (by rw [List.length_reverse, itemsD_len, ly, lx]) fun i x y hi hj => ?_
  have hil : i < xs.length := by
    have := (List.getElem?_eq_some_iff.mp hi).1
    omega
  rw [List.getElem?_reverse (by rw [itemsD_len]; omega), itemsD_len, ← lx] at hj
  rw [itemsD_get (by omega)] at hj
  cases hj
  have hj : xs.length - 1 - i < ds.length := by omega
  have hd : ds[xs.length - 1 - i]? = some (ds.getD (xs.length - 1 - i) .none) := by
    rw [List.getElem?_eq_getElem hj, List.getD_eq_getElem?_getD, List.getElem?_eq_getElem hj]; rfl
  obtain ⟨v, hv, dv⟩ := dpa_get hx hd
  have g := paired_get h hi (y := (path ++ [((xs.length - 1 - i : Nat) : Int)], xs.getD (xs.length - 1 - i) .non)) (by rw [entsV, List.getElem?_map, List.getElem?_range hil]; rfl)
  exact ⟨v, by rw [getD_some _ hv] at g; exact g, dv⟩
theorem paired_unsnoc {α β : Type} {F : α → β → Prop} : ∀ {a : List α} {b : List β} {y : β}, Paired F a (b ++ [y]) → ∃ a0 x, a = a0 ++ [x] ∧ Paired F a0 b ∧ F x y
  | _, [], y, .cons h .nil => ⟨[], _, rfl, .nil, h⟩
  | _, z :: b, y, .cons h r => by
    obtain ⟨a0, x, rfl, k1, k2⟩ := paired_unsnoc r
    exact ⟨_ :: a0, x, rfl, .cons h k1, k2⟩
/-- what stands on the stack is good -/
def Gd (ok : Str → Prop) (many : Nat) (e : List Int × PyData) : Prop := e.1 ≠ [] ∧ e.1.length ≤ 2 * many + 1 ∧ (∃ n, fit e.2 n = true) ∧ allW ok e.2
theorem gd_items {ok : Str → Prop} {many : Nat} {p : List Int} {ds : List PyData} (hp : p.length ≤ 2 * many) (hf : ∃ n, ∀ e ∈ ds, fit e n = true) (hw : ∀ e ∈ ds, allW ok e) : ∀ e ∈ itemsD p ds, Gd ok many e := by
  intro e he
  rw [itemsD, List.mem_map] at he
  obtain ⟨i, hi, rfl⟩ := he
  rw [List.mem_range] at hi
  have hm : ds.getD i .none ∈ ds := by
    rw [List.getD_eq_getElem?_getD, List.getElem?_eq_getElem hi]
    exact List.getElem_mem hi
  obtain ⟨n, hf⟩ := hf
  exact ⟨by simp, by simp; omega, ⟨n, hf _ hm⟩, hw _ hm⟩
theorem gd_up {ok : Str → Prop} {a b : Nat} {e : List Int × PyData} (h : Gd ok a e) (hab : a ≤ b) : Gd ok b e := ⟨h.1, by have := h.2.1; omega, h.2.2⟩
theorem flatD_cons {p : List Int} {k : Nat} {bs : List PyData} (h : k < bs.length) : flatD p k (bs.drop k) = itemsD (p ++ [(k : Int)]) (elems (bs.getD k .none)) ++ flatD p (k + 1) (bs.drop (k + 1)) := by
  rw [List.drop_eq_getElem_cons h, flatD, List.getD_eq_getElem?_getD, List.getElem?_eq_getElem h]; rfl
end
section
variable {P : Program} {w : World} {K : PySem.W.Frag} {mg : Str → Option Value} {base : Heap} {σ : L2.St} {H H' H0 : Hp}
theorem ev_spFits {t1 t2 t3 t4 : TE} {E : XK} {v : V} {d : PyData} {p : Addr} {path : List Int} {ok : Str → Prop} {c m n : Nat} (h1 : Ev t1 σ H v) (h2 : Ev t2 σ H (.ref p)) (h3 : Ev t3 σ H (.int (c : Int))) (h4 : Ev t4 σ H (.int (m : Int))) (hd : Dp K H v d) (hp : SqT K H p (path.map V.int)) (hne : path ≠ []) (hl : path.length ≤ 1000) (hf : fit d n = true) (hw : wordOk ok d) :
    Ev (tCall (spFits K ok) [] E (tCons t1 (tCons t2 (tCons t3 (tCons t4 tNil))))) σ H (.bl (fitsD c m path d)) :=
  ev_call (ea_cons h1 (ea_cons h2 (ea_cons h3 (ea_cons h4 ea_nil)))) fun H1 e Q q _ => ⟨v, d, p, path, c, m, n, rfl, dp_ex e d v hd, ex_t e hp, hne, hl, hf, hw, q⟩
theorem q_while {c : TT} {tb tz : TS} {D : Ends} (Pv : L2.St → Hp → Prop) (μ : L2.St → Hp → Nat) (h0 : Pv σ H)
    (hs : ∀ σ H, Pv σ H → c σ H fun b H1 => if b = true then tb { nx := fun σ' H' => Pv σ' H' ∧ μ σ' H' < μ σ H, rt := D.rt, bk := tz D, ct := fun σ' H' => Pv σ' H' ∧ μ σ' H' < μ σ H } σ H1 else tz D σ H1)
    (mono : ∀ σ H (Q Q' : Bool → Hp → Prop), (∀ b H1, Q b H1 → Q' b H1) → c σ H Q → c σ H Q') : tSeq (tWhile c tb) tz D σ H :=
  while_by (D := { D with nx := tz D }) Pv μ h0 hs mono
theorem gd_flat {ok : Str → Prop} {many : Nat} {p : List Int} (hp : p.length + 1 ≤ 2 * many) : ∀ (bs : List PyData) (k : Nat), (∀ b ∈ bs, ∃ ds, b = .list ds ∧ ds.length ≤ 10000 ∧ (∃ n, ∀ e ∈ ds, fit e n = true) ∧ ∀ e ∈ ds, allW ok e) → ∀ e ∈ flatD p k bs, Gd ok many e
  | [], k, _, e, he => by cases he
  | b :: r, k, h, e, he => by
    obtain ⟨ds, rfl, _, hf, hw⟩ := h b (List.mem_cons_self ..)
    rw [flatD, List.mem_append] at he
    rcases he with he | he
    · exact gd_items (by simp; omega) hf hw e he
    · exact gd_flat hp r (k + 1) (fun b hb => h b (List.mem_cons_of_mem _ hb)) e he
theorem flat_len {p : List Int} : ∀ (bs : List PyData) (k : Nat), (∀ b ∈ bs, (elems b).length ≤ 10000) → (flatD p k bs).length ≤ 10000 * bs.length
  | [], k, _ => by simp [flatD]
  | b :: r, k, h => by
    have h1 := h b (List.mem_cons_self ..)
    have h2 := flat_len (p := p) r (k + 1) fun b hb => h b (List.mem_cons_of_mem _ hb)
    rw [flatD, List.length_append, itemsD_len, List.length_cons]
    omega
def spFF (K : PySem.W.Frag) (ok : Str → Prop) : Sp := fun vs H Q _ => ∃ (v : V) (ds : List PyData) (c m n : Nat), vs = [v, .int (c : Int), .int (m : Int)] ∧ Dp K H v (.list ds) ∧ fit (.list ds) n = true ∧ (∀ e ∈ ds, allW ok e) ∧
  (∀ H', Ex H H' → firstD c m ds = none → Q .non H') ∧ ∀ p t H', Ex H H' → firstD c m ds = some p → SqT K H' t (p.map V.int) → Q (.ref t) H'
def mu4 (σ : L2.St) (_ : Hp) : Nat := match σ[4]? with
  | some (some (V.int i)) => (13 - i).toNat
  | _ => 0
theorem ok_first_fault {f : Addr} {fd : FuncData} {k : Nat} {ok : Str → Prop} {tk : Tok} (F : Fun K "first_fault" "first_fault" sfirst_fault f fd) (z_range : mg "range" = none) (z_reversed : mg "reversed" = none) (z_len : mg "len" = none) (c_PROCEDURE_LIMIT : mg "PROCEDURE_LIMIT" = some (.int 12 tk))
    (Centries : Cal P w K mg base 1 "entries" (spEntries K) []) (Cfits : Cal P w K mg base 6 "fits" (spFits K ok) []) (Cblocks_of : Cal P w K mg base 1 "blocks_of" (spBlocks K) []) (hk : 6 ≤ k) : FnOk P w K mg base CX0 (k + 1) f fd ["body", "cells", "procedures"] (spFF K ok) := by
  have sc := scfirst_fault
  refine F.ok sc (fun vs H Q E h => ?_) (fun cdv A outer s H vs Q E hr h => ?_)
  · obtain ⟨v, ds, c, m, n, rfl, _⟩ := h
    rfl
  · obtain ⟨v, ds, c, m, n, rfl, hd, hf, hw, q1, q2⟩ := h
    refine ⟨_, (pss_cons (ps_set (i := 3) sc.nd rfl (by first | exact Or.inl rfl | exact Or.inr rfl) (pe_c Centries hr (by omega) (by rfl) (pa_cons (pv 0) (pa_cons (pe_tup pa_nil) pa_nil))))
      (pss_cons (ps_set (i := 4) sc.nd rfl (by first | exact Or.inl rfl | exact Or.inr rfl) pe_int)
      (pss_cons (ps_while PassesOwn.never (pt_truth (pv 3) (by intro _; rfl))
      (pss_cons (ps_asg (pe_bm0 PySem.F.plainAttrs_list PySem.F.slot_list_pop PySem.F.type_list_pop mt_pop (pv 3)) (pg_tup (by rfl) (pgs_cons (pg_name (i := 5) sc.nd rfl (by first | exact Or.inl rfl | exact Or.inr rfl)) (pgs_cons (pg_name (i := 6) sc.nd rfl (by first | exact Or.inl rfl | exact Or.inr rfl)) pgs_nil))))
      (pss_cons (ps_set (i := 4) sc.nd rfl (by first | exact Or.inl rfl | exact Or.inr rfl) (pe_op op_add (pv 4) pe_int))
      (pss_cons (ps_if (PW.pt (pw_or (pt_cmpR op_gt (pv 4) (pe_glob (v := .int 12) (by rfl) c_PROCEDURE_LIMIT ⟨_, rfl⟩) (nomark _)) (pw_or1 (pt_not (pt_val (pe_c Cfits hr (by omega) (by rfl) (pa_cons (pv 6) (pa_cons (pv 5) (pa_cons (pv 1) (pa_cons (pv 2) pa_nil))))))))))
      (pss_one (ps_ret (pv 5)))
      pss_nil)
      (pss_cons (ps_set (i := 7) sc.nd rfl (by first | exact Or.inl rfl | exact Or.inr rfl) (pe_c Cblocks_of hr (by omega) (by rfl) (pa_cons (pv 6) pa_nil)))
      (pss_one (ps_for PassesOwn.never rfl (pi_revR (by rfl) z_reversed (prg_1 (by rfl) z_range (pe_callB call_len_seq (by rfl) z_len (by decide +kernel) (pa_cons (pv 7) pa_nil)))) (pg_name (i := 8) sc.nd rfl (by first | exact Or.inl rfl | exact Or.inr rfl))
      (pss_one (ps_expr (pe_bm PySem.F.plainAttrs_list PySem.F.slot_list_extend PySem.F.type_list_extend mt_extend (pv 3) (pa_cons (pe_c Centries hr (by omega) (by rfl) (pa_cons (pe_ix ix_list (pv 7) (pv 8) (fun _ _ => rfl)) (pa_cons (pe_tup (pa_starK (K := K) rfl (pv 5) (pa_cons (pv 8) pa_nil))) pa_nil))) pa_nil)))))))))))
      (pss_one (ps_ret pe_non))))), ?_⟩
    obtain ⟨b, xs, rfl, hb, hx⟩ := dp_lst hd
    obtain ⟨fm, _, hl, hg⟩ := fit_list hf
    have lx := dpa_len hx
    refine q_run ?_
    refine ⟨.ref b, rfl, (by show 0 ≤ sizeLine; decide), fun T nT => ?_⟩
    refine ⟨b, T, xs, [], rfl, ex_l (Ex.new nT) hb, st_of upd_same, by omega, by simp, fun D ys H1 nD e1 hD hE => ?_⟩
    have nD0 : H D = none := new_ex (Ex.new nT) nD
    have e01 : Ex H H1 := (Ex.new nT).trans e1
    refine q_asg ev_c fun H2 e2 => ?_
    refine q_while (fun σ' H' => ∃ (st : List (List Int × PyData)) (many : Nat) (ys : List V) (x5 x6 x7 x8 : Option V), σ' = [some (.ref b), some (.int (c : Int)), some (.int (m : Int)), some (.ref D), some (.int (many : Int)), x5, x6, x7, x8] ∧ Ex H H' ∧ H' D = some (.lst ys) ∧ Stk K H H' ys st.reverse ∧ many ≤ 12 ∧ ffD c m (13 - many) st many = firstD c m ds ∧ st.length ≤ 10000 + 20000 * many ∧ ∀ e ∈ st, Gd ok many e) mu4
      ⟨itemsD [] ds, 0, ys, none, none, none, none, rfl, e01.trans e2, e2 _ _ hD, stk_ex (stk_ents hE hx) e2, by omega, rfl, by rw [itemsD_len]; omega, gd_items (by simp) ⟨fm, fun e he => fitAll_mem hg he⟩ hw⟩
      (fun σ' H' hP => ?_) (fun σ' H' Q' Q'' h ⟨v, hv, kk, tt, q⟩ => ⟨v, hv, kk, tt, h _ _ q⟩)
    obtain ⟨st, many, ys, x5, x6, x7, x8, rfl, eH, hD, hS, hm, hff, hsl, hgd⟩ := hP
    refine ⟨.ref D, rfl, !ys.isEmpty, .inl ⟨ys, sq_of hD, rfl⟩, ?_⟩
    cases st with
    | nil =>
      cases hS
      refine s_ret ev_c fun H3 e3 => q1 H3 (eH.trans e3) ?_
      rw [← hff, show 13 - many = (12 - many) + 1 by omega]; rfl
    | cons e0 st =>
      obtain ⟨p, d⟩ := e0
      rw [List.reverse_cons] at hS
      obtain ⟨ys0, x, rfl, hS0, v, hT, dv⟩ := paired_unsnoc hS
      have hne : (!(ys0 ++ [x]).isEmpty) = true := by simp
      rw [if_pos hne]
      obtain ⟨t, pa, rfl, ht, hpa⟩ := entT_updL (l' := (ys0 ++ [x]).dropLast) hT hD
      have hS1 := stk_updL (l' := (ys0 ++ [V.ref t]).dropLast) hS0 hD
      have e1' := eH.mut (o := .lst (ys0 ++ [V.ref t]).dropLast) nD0
      have hD1 : (upd H' D (.lst (ys0 ++ [V.ref t]).dropLast)) D = some (.lst ys0) := by rw [upd_same, List.dropLast_concat]
      refine ⟨.ref D, rfl, .inl ⟨rfl, _, sq_of hD⟩, D, ys0 ++ [V.ref t], V.ref t, rfl, rfl, hD, by simp, ?_⟩
      generalize upd H' D (.lst (ys0 ++ [V.ref t]).dropLast) = H3 at ht hpa hS1 e1' hD1 ⊢
      refine ⟨t, _, rfl, ht, rfl, .ref pa, _, rfl, v, _, rfl, rfl, ?_⟩
      dsimp only
      refine q_asg (i := 4) (v := .int ((many + 1 : Nat) : Int)) ?ev fun H4 e4 => ?_
      case ev => exact ev_is (ev_op (ev_var rfl) ev_c rv_I0) (by rw [Int.natCast_add]; rfl)
      have e14 := e1'.trans e4
      have hgp := hgd (p, d) (List.mem_cons_self ..)
      obtain ⟨hpn, hpl, ⟨nf, hfd⟩, hwd⟩ := hgp
      have hpl : p.length ≤ 2 * many + 1 := hpl
      refine q_when (et_or (et_test (ev_op (ev_var rfl) ev_c rv_I0)) fun _ => et_not (et_B (ev_spFits (path := p) (d := d) (ev_var rfl) (ev_var rfl) (ev_var rfl) (ev_var rfl) (dp_ex e14 _ _ dv) (ex_t e4 hpa) hpn (by omega) hfd (allW_word hwd)))) (fun hc H5 e5 => ?_) (fun hc H5 e5 => ?_)
      · refine s_ret (ev_var rfl) fun H6 e6 => q2 p pa H6 ((e14.trans e5).trans e6) ?_ (ex_t ((e4.trans e5).trans e6) hpa)
        rw [← hff, show 13 - many = (12 - many) + 1 by omega, ffD, if_pos]
        rw [← hc]
        exact congrArg (· || _) (decide_eq_decide.mpr (by omega))
      · have hc2 : (decide (12 < many + 1) || !fitsD c m p d) = false := by
          rw [← hc]
          exact congrArg (· || _) (decide_eq_decide.mpr (by omega))
        rw [Bool.or_eq_false_iff] at hc2
        have hm2 : many + 1 ≤ 12 := by
          have := of_decide_eq_false hc2.1
          omega
        have hfit : fitsD c m p d = true := by simpa using hc2.2
        have hst : stmD c m d = true := by
          cases h : stmD c m d with
          | true => rfl
          | false => rw [fitsD, h] at hfit; simp at hfit
        rw [show 13 - many = (12 - many) + 1 by omega, ffD, if_neg (by rw [hc2.1, hc2.2]; simp), show 12 - many = 13 - (many + 1) by omega] at hff
        have hbg := blocks_good hst ⟨nf, hfd⟩ hwd
        have hel : ∀ b ∈ blocksD d, (elems b).length ≤ 10000 := fun b hb => by
          obtain ⟨ds', rfl, hl', _⟩ := hbg b hb
          exact hl'
        have hnb := blocks_len (d := d)
        have e15 := e14.trans e5
        refine q_run ?_
        refine ⟨v, rfl, v, d, c, m, H, rfl, e15, dv, hst, fun B bs H6 nB e6 hB hxb => ?_⟩
        have lb := dpa_len hxb
        have hBD : B ≠ D := fun e => by
          rw [e] at nB
          rw [e5 _ _ (e4 _ _ hD1)] at nB
          cases nB
        have e16 := e15.trans e6
        refine ⟨.ref B, rfl, B, bs, rfl, .inl (sq_of hB), (bs.length : Int), rfl, by omega, by omega, by omega, by omega, ?_⟩
        have hn : ((bs.length : Int) - 0).toNat = bs.length := by omega
        rw [hn]
        have wk := (walk_rangeC (lo := (0 : Int) + ((bs.length : Nat) : Int) - 1) (c := -1) (n := bs.length)).mono (G' := fun _ => True) (Y' := fun i H x H' => H' = H ∧ x = .int ((bs.length - 1 - i : Nat) : Int)) (fun _ _ => trivial) (fun i H x H' hi _ y => ⟨y.1, by rw [y.2]; exact congrArg V.int (by omega)⟩)
        refine for_it wk (fun i σ'' H'' => ∃ (x8 : Option V) (ys' : List V), σ'' = [some (.ref b), some (.int (c : Int)), some (.int (m : Int)), some (.ref D), some (.int ((many + 1 : Nat) : Int)), some (.ref pa), some v, some (.ref B), x8] ∧ Ex H H'' ∧ H'' B = some (.lst bs) ∧ H'' D = some (.lst ys') ∧ SqT K H'' pa (p.map V.int) ∧
            Stk K H H'' ys' (flatD p (bs.length - i) ((blocksD d).drop (bs.length - i)) ++ st).reverse)
          ⟨x8, ys0, rfl, e16, hB, e6 _ _ (e5 _ _ (e4 _ _ hD1)), ex_t ((e4.trans e5).trans e6) hpa, ?h0⟩ (fun _ _ _ _ _ => trivial) (fun i x σ'' H'' Hy hi hP y => ?hstep) (fun σ'' H'' hP => ?hend)
        case h0 =>
          rw [Nat.sub_zero, List.drop_of_length_le (by omega)]
          exact stk_ex hS1 ((e4.trans e5).trans e6)
        case hend =>
          obtain ⟨x8', ys', rfl, eH2, hB2, hD2, hp2, hS2⟩ := hP
          rw [Nat.sub_self, List.drop_zero] at hS2
          refine ⟨⟨_, many + 1, ys', some (.ref pa), some v, some (.ref B), x8', rfl, eH2, hD2, hS2, hm2, hff, ?_, ?_⟩, ?_⟩
          · have := flat_len (p := p) (blocksD d) 0 hel
            rw [List.length_cons] at hsl
            rw [List.length_append]
            omega
          · intro e he
            rw [List.mem_append] at he
            rcases he with he | he
            · exact gd_flat (by omega) _ 0 hbg e he
            · exact gd_up (hgd e (List.mem_cons_of_mem _ he)) (by omega)
          · show (13 - ((many + 1 : Nat) : Int)).toNat < (13 - (many : Int)).toNat
            omega
        case hstep =>
          obtain ⟨x8', ys', rfl, eH2, hB2, hD2, hp2, hS2⟩ := hP
          obtain ⟨rfl, rfl⟩ := y
          generalize hj : bs.length - 1 - i = j at *
          have e1 : bs.length - (i + 1) = j := by omega
          have e2 : bs.length - i = j + 1 := by omega
          have hjl : j < (blocksD d).length := by omega
          rw [e2] at hS2
          obtain ⟨dsj, hdj, hlj, hfj, hwj⟩ := hbg _ (List.getElem_mem hjl)
          have hgj : (blocksD d)[j]? = some (.list dsj) := by rw [List.getElem?_eq_getElem hjl, hdj]
          obtain ⟨vb, hvb, dvb⟩ := dpa_get hxb hgj
          obtain ⟨bb, xsj, rfl, hsb, hxj⟩ := dp_lst dvb
          have lj := dpa_len hxj
          have ly := paired_len hS2
          have hlen : (flatD p (j + 1) ((blocksD d).drop (j + 1)) ++ st).length ≤ 300000 := by
            have := flat_len (p := p) ((blocksD d).drop (j + 1)) (j + 1) fun b hb => hel b (List.mem_of_mem_drop hb)
            rw [List.length_drop] at this
            rw [List.length_cons] at hsl
            rw [List.length_append]
            omega
          rw [List.length_reverse] at ly
          refine ⟨.ref D, rfl, .inl ⟨rfl, _, sq_of hD2⟩, ?_⟩
          refine ⟨.ref B, rfl, .int (j : Int), rfl, B, bs, (j : Int), .ref bb, rfl, rfl, sq_of hB2, atI_nat hvb, ?_⟩
          refine ⟨.ref pa, rfl, pa, p.map V.int, rfl, .inl hp2, .int (j : Int), rfl, sz_of (by simp; omega), fun T2 nT2 => ?_⟩
          have eT := Ex.new (o := .tup (p.map V.int ++ [V.int (j : Int)])) nT2
          refine ⟨bb, T2, xsj, p ++ [(j : Int)], rfl, ex_l (eH2.trans eT) hsb, st_of (by rw [upd_same, List.map_append]; rfl), by omega, by simp; omega, fun D2 ys2 H7 nD2 e7 hD2' hE => ?_⟩
          have e27 := eT.trans e7
          have hD7 := e27 _ _ hD2
          refine ⟨D, D2, ys', ys2, rfl, rfl, hD7, hD2', ?_, ?_⟩
          · have l2 := paired_len hE
            rw [entsV, List.length_map, List.length_range] at l2
            exact Nat.le_trans (m := 400000) (by omega) (by decide)
          · refine ⟨some (.int (j : Int)), ys' ++ ys2, rfl, (eH2.trans e27).mut nD0, by rw [upd_ne hBD]; exact e27 _ _ hB2, upd_same, sqT_updL (ex_t e27 hp2) hD7, ?_⟩
            rw [e1, flatD_cons hjl, getD_some _ hgj, List.append_assoc, List.reverse_append]
            exact paired_app (stk_updL (stk_ex hS2 e27) hD7) (stk_updL (stk_ents hE hxj) hD7)
end
abbrev scheck_bodies : Stmt := topS 32
theorem sccheck_bodies : FnScope ["cells", "bodies", "procedure", "body", "path"] ["cells", "bodies"] (defScope scheck_bodies) := ⟨rfl, rfl, rfl, by decide +kernel, rfl, by decide +kernel, by decide +kernel⟩
abbrev sBook___init__ : Stmt := inClass (topS 34) 0
theorem scBook___init__ : FnScope ["self", "cells", "bodies"] ["self", "cells", "bodies"] (defScope sBook___init__) := ⟨rfl, rfl, rfl, by decide +kernel, rfl, by decide +kernel, by decide +kernel⟩
abbrev sBook_cells : Stmt := inClass (topS 34) 1
theorem scBook_cells : FnScope ["self"] ["self"] (defScope sBook_cells) := ⟨rfl, rfl, rfl, by decide +kernel, rfl, by decide +kernel, by decide +kernel⟩
abbrev sBook_bodies : Stmt := inClass (topS 34) 2
theorem scBook_bodies : FnScope ["self"] ["self"] (defScope sBook_bodies) := ⟨rfl, rfl, rfl, by decide +kernel, rfl, by decide +kernel, by decide +kernel⟩
abbrev sBook_calls : Stmt := inClass (topS 34) 3
theorem scBook_calls : FnScope ["self"] ["self"] (defScope sBook_calls) := ⟨rfl, rfl, rfl, by decide +kernel, rfl, by decide +kernel, by decide +kernel⟩
abbrev sBook___len__ : Stmt := inClass (topS 34) 4
theorem scBook___len__ : FnScope ["self"] ["self"] (defScope sBook___len__) := ⟨rfl, rfl, rfl, by decide +kernel, rfl, by decide +kernel, by decide +kernel⟩
abbrev sBook___getitem__ : Stmt := inClass (topS 34) 5
theorem scBook___getitem__ : FnScope ["self", "at", "procedure", "path", "statement"] ["self", "at"] (defScope sBook___getitem__) := ⟨rfl, rfl, rfl, by decide +kernel, rfl, by decide +kernel, by decide +kernel⟩
abbrev sBook___eq__ : Stmt := inClass (topS 34) 7
theorem scBook___eq__ : FnScope ["self", "other"] ["self", "other"] (defScope sBook___eq__) := ⟨rfl, rfl, rfl, by decide +kernel, rfl, by decide +kernel, by decide +kernel⟩
abbrev sstatement_at : Stmt := topS 33
theorem scstatement_at : FnScope ["body", "path", "place", "statement", "step"] ["body", "path"] (defScope sstatement_at) := ⟨rfl, rfl, rfl, by decide +kernel, rfl, by decide +kernel, by decide +kernel⟩
abbrev splaces : Stmt := topS 25
theorem scplaces : FnScope ["body", "rows", "index", "statement", "number", "block", "path", "inner"] ["body"] (defScope splaces) := ⟨rfl, rfl, rfl, by decide +kernel, rfl, by decide +kernel, by decide +kernel⟩
section
variable {P : Program} {w : World} {K : PySem.W.Frag} {mg : Str → Option Value} {base : Heap} {σ : L2.St} {H H' H0 : Hp}
theorem ev_spFF0 {t1 t2 t3 : TE} {E : XK} {v : V} {ds : List PyData} {ok : Str → Prop} {c m n : Nat} (h1 : Ev t1 σ H v) (h2 : Ev t2 σ H (.int (c : Int))) (h3 : Ev t3 σ H (.int (m : Int))) (hd : Dp K H v (.list ds)) (hf : fit (.list ds) n = true) (hw : ∀ e ∈ ds, allW ok e) (h0 : firstD c m ds = none) :
    Ev (tCall (spFF K ok) [] E (tCons t1 (tCons t2 (tCons t3 tNil)))) σ H .non :=
  ev_call (ea_cons h1 (ea_cons h2 (ea_cons h3 ea_nil))) fun H1 e Q q _ => ⟨v, ds, c, m, n, rfl, dp_ex e _ v hd, hf, hw, fun H' e' _ => q H' e', fun p t H' e' h _ => by rw [h0] at h; cases h⟩
/-- bodies without a fault -/
def okBodies (ok : Str → Prop) (c : Nat) (bs : List PyData) : Prop := 1 ≤ bs.length ∧ bs.length ≤ 3 ∧ ∀ b ∈ bs, ∃ ds, b = .list ds ∧ (∀ e ∈ ds, allW ok e) ∧ firstD c bs.length ds = none
def spChk (K : PySem.W.Frag) (ok : Str → Prop) : Sp := fun vs H Q _ => ∃ (v : V) (bs : List PyData) (c n : Nat), vs = [.int (c : Int), v] ∧ Dp K H v (.list bs) ∧ fit (.list bs) n = true ∧ okBodies ok c bs ∧ ∀ H', Ex H H' → Q .non H'
theorem ok_check_bodies {f : Addr} {fd : FuncData} {k : Nat} {ok : Str → Prop} {tk : Tok} (F : Fun K "check_bodies" "check_bodies" scheck_bodies f fd) (z_isinstance : mg "isinstance" = none) (z_list : mg "list" = none) (z_len : mg "len" = none) (z_enumerate : mg "enumerate" = none) (c_MOST_PROCEDURES : mg "MOST_PROCEDURES" = some (.int 3 tk))
    (Cfirst_fault : Cal P w K mg base 7 "first_fault" (spFF K ok) []) (hk : 7 ≤ k) : FnOk P w K mg base CX0 (k + 1) f fd ["cells", "bodies"] (spChk K ok) := by
  have sc := sccheck_bodies
  refine F.ok sc (fun vs H Q E h => ?_) (fun cdv A outer s H vs Q E hr h => ?_)
  · obtain ⟨v, bs, c, n, rfl, _⟩ := h
    rfl
  · obtain ⟨v, bs, c, n, rfl, hd, hf, hok, q⟩ := h
    refine ⟨_, (pss_cons (ps_if (PW.pt (pw_or (pt_not (pt_val (pe_callB call_isi (by rfl) z_isinstance (by decide +kernel) (pa_cons (pv 1) (pa_cons (pe_bltn (v := .ty "list") (by rfl) z_list (by decide +kernel) rfl) pa_nil))))) (pw_or1 (pt_not (pt_chain op_le op_le pe_int (pe_callB call_len_seq (by rfl) z_len (by decide +kernel) (pa_cons (pv 1) pa_nil)) (pe_glob (v := .int 3) (by rfl) c_MOST_PROCEDURES ⟨_, rfl⟩))))))
      (pss_one ps_never)
      pss_nil)
      (pss_one (ps_for PassesOwn.never rfl (pi_enum (by rfl) z_enumerate (pa_cons (pv 1) pa_nil)) (pg_tup (by rfl) (pgs_cons (pg_name (i := 2) sc.nd rfl (by first | exact Or.inl rfl | exact Or.inr rfl)) (pgs_cons (pg_name (i := 3) sc.nd rfl (by first | exact Or.inl rfl | exact Or.inr rfl)) pgs_nil)))
      (pss_cons (ps_if (pt_not (pt_val (pe_callB call_isi (by rfl) z_isinstance (by decide +kernel) (pa_cons (pv 3) (pa_cons (pe_bltn (v := .ty "list") (by rfl) z_list (by decide +kernel) rfl) pa_nil)))))
      (pss_one ps_never)
      pss_nil)
      (pss_cons (ps_set (i := 4) sc.nd rfl (by first | exact Or.inl rfl | exact Or.inr rfl) (pe_c Cfirst_fault hr (by omega) (by rfl) (pa_cons (pv 3) (pa_cons (pv 0) (pa_cons (pe_callB call_len_seq (by rfl) z_len (by decide +kernel) (pa_cons (pv 1) pa_nil)) pa_nil)))))
      (pss_one (ps_if (pt_cmpR op_notN (pv 4) pe_non (nomark _))
      (pss_one ps_never)
      pss_nil))))))), ?_⟩
    obtain ⟨l1, l3, hall⟩ := hok
    have kd := kitB_isa (PyData.list bs)
    have hd0 := hd
    obtain ⟨b, xs, rfl, hb, hx⟩ := dp_lst hd
    obtain ⟨fm, _, hl, hg⟩ := fit_list hf
    have lx := dpa_len hx
    refine q_when (b := false) (et_or (a := false) (b := false) (et_is (et_not (et_B (ev_isi hd0 (ev_var rfl) kd.2.2.2.1))) (by rw [isa_listD rfl]; rfl)) fun _ => et_is (et_not (et_test (ev_chain (b := decide ((xs.length : Int) ≤ 3)) ev_c (ev_lenS (ev_var rfl) (.inl hb)) rv_I0 fun _ => ⟨ev_c, rv_I0⟩))) ?hlen) (fun h => (nomatch h)) fun _ H1 e1 => ?_
    case hlen =>
      rw [decide_eq_true (by omega : (1 : Int) ≤ (xs.length : Int)), decide_eq_true (by omega : (xs.length : Int) ≤ 3)]; rfl
    refine ⟨.ref b, rfl, b, xs, rfl, ex_l e1 hb, ?_⟩
    refine for_it walk_enum (fun i σ' H' => ∃ x2 x3 x4 : Option V, σ' = [some (.int (c : Int)), some (.ref b), x2, x3, x4] ∧ Ex H H') ⟨none, none, none, rfl, e1⟩ (fun i σ' H' _ ⟨_, _, _, _, e⟩ => ex_l e hb) (fun i x σ' H' H'' hi hP y => ?_) (fun σ' H' ⟨_, _, _, _, e⟩ => q H' e)
    obtain ⟨x2, x3, x4, rfl, e2⟩ := hP
    obtain ⟨T, x, y, rfl, nT, rfl, hx', hy⟩ := y
    cases hx'
    have eT := e2.trans (Ex.new (o := .tup [.int (i : Nat), y]) nT)
    have hib : i < bs.length := by omega
    obtain ⟨ds, hds, hwd, h0⟩ := hall _ (List.getElem_mem hib)
    have hgi : bs[i]? = some (.list ds) := by rw [List.getElem?_eq_getElem hib, hds]
    obtain ⟨y', hy', dy⟩ := dpa_get hx hgi
    have hyy : some y' = some y := hy'.symm.trans hy
    cases hyy
    have kd2 := kitB_isa (PyData.list ds)
    have fds : fit (.list ds) fm = true := by rw [← hds]; exact fitAll_mem hg (List.getElem_mem hib)
    refine ⟨T, _, rfl, st_of upd_same, rfl, _, _, rfl, _, _, rfl, rfl, ?_⟩
    dsimp only
    refine q_when (b := false) (et_is (et_not (et_B (ev_isi (dp_ex eT _ _ dy) (ev_var rfl) kd2.2.2.2.1))) (by rw [isa_listD rfl]; rfl)) (fun h => (nomatch h)) fun _ H3 e3 => ?_
    have e23 := eT.trans e3
    refine q_asg (ev_spFF0 (m := bs.length) (ev_var rfl) (ev_var rfl) (ev_is (ev_lenS (ev_var rfl) (.inl (ex_l e23 hb))) (by rw [lx])) (dp_ex e23 _ _ dy) fds hwd h0) fun H4 e4 => ?_
    refine s_when (b := false) (et_is (et_test (ev_op (z := .bl (!decide (V.non = V.non))) (ev_var rfl) ev_c (rv_val fun _ _ _ q => ⟨rfl, q⟩))) (by simp)) (fun h => (nomatch h)) fun _ H5 e5 => ?_
    exact ⟨_, _, _, rfl, (e23.trans e4).trans e5⟩
end
open C8 (Mak pe_mk)
section
variable {P : Program} {w : World} {K : PySem.W.Frag} {mg : Str → Option Value} {base : Heap} {σ : L2.St} {H H' H0 : Hp}
theorem ev_spChk {t1 t2 : TE} {E : XK} {v : V} {bs : List PyData} {ok : Str → Prop} {c n : Nat} (h1 : Ev t1 σ H (.int (c : Int))) (h2 : Ev t2 σ H v) (hd : Dp K H v (.list bs)) (hf : fit (.list bs) n = true) (hok : okBodies ok c bs) :
    Ev (tCall (spChk K ok) [] E (tCons t1 (tCons t2 tNil))) σ H .non :=
  ev_call (ea_cons h1 (ea_cons h2 ea_nil)) fun H1 e Q q _ => ⟨v, bs, c, n, rfl, dp_ex e _ v hd, hf, hok, q⟩
/-- a book: its cells, and a copy of its bodies -/
def IsBook (N : Addr → Prop) (C : Addr) (H : Hp) (x : Addr) (c : Nat) (bs : List PyData) : Prop := ∃ dx v, H x = some (.ins C dx [("_cells", .int (c : Int)), ("_bodies", v)]) ∧ Dq N H v (.list bs)
def spInit (K : PySem.W.Frag) (ok : Str → Prop) (C : Addr) (cn : Nat) : Sp := fun vs H Q _ => ∃ (x dx : Addr) (v : V) (bs : List PyData) (c n : Nat) (Hb : Hp), vs = [.ref x, .int (c : Int), v] ∧ H x = some (.ins C dx []) ∧ Hb x = none ∧ Ex Hb H ∧ Dp K Hb v (.list bs) ∧ fit (.list bs) n = true ∧ cn = n + 1 ∧ 1 ≤ c ∧ c ≤ 3 ∧ okBodies ok c bs ∧
  ∀ H', Ex Hb H' → IsBook (New Hb) C H' x c bs → Q .non H'
theorem mak_Book {C f : Addr} {fd : FuncData} {k cn : Nat} {ok : Str → Prop} {tk : Tok} (M : Mk K C f) (hm : mg "Book" = some (.ref C)) (F : Fun K "__init__" "Book.__init__" sBook___init__ f fd) (b : Binds K fd ["self", "cells", "bodies"] []) (hc : Cls K C) (n1 : NoAttr K C "_cells") (n2 : NoAttr K C "_bodies") (c_MOST_CELLS : mg "MOST_CELLS" = some (.int 3 tk))
    (Cis_between : Cal P w K mg base 2 "is_between" (spBtw K) []) (Ccheck_bodies : Cal P w K mg base 8 "check_bodies" (spChk K ok) []) (Ccopied : Cal P w K mg base cn "copied" (spCopy K cn) []) (hk : 8 ≤ k) (hcn : cn ≤ k) : Mak P w K mg base (k + 1) "Book" C (spInit K ok C cn) [] := by
  have sc := scBook___init__
  refine ⟨f, fd, ["self", "cells", "bodies"], [], M, ?_, hm, b, .nil⟩
  refine F.ok sc (fun vs H Q E h => ?_) (fun cdv A outer s H vs Q E hr h => ?_)
  · obtain ⟨x, dx, v, bs, c, n, Hb, rfl, _⟩ := h
    rfl
  · obtain ⟨x, dx, v, bs, c, n, Hb, rfl, hx, hbx, eb, hd, hf, hcn2, c1, c3, hok, q⟩ := h
    refine ⟨_, (pss_cons (ps_if (pt_not (pt_val (pe_c Cis_between hr (by omega) (by rfl) (pa_cons (pv 1) (pa_cons pe_int (pa_cons (pe_glob (v := .int 3) (by rfl) c_MOST_CELLS ⟨_, rfl⟩) pa_nil))))))
      (pss_one ps_never)
      pss_nil)
      (pss_cons (ps_expr (pe_c Ccheck_bodies hr (by omega) (by rfl) (pa_cons (pv 1) (pa_cons (pv 2) pa_nil))))
      (pss_cons (ps_fld (pv 0) (pv 1) rfl)
      (pss_one (ps_fld (pv 0) (pe_c Ccopied hr (by omega) (by rfl) (pa_cons (pv 2) pa_nil)) rfl))))), ?_⟩
    refine q_when (b := false) (et_is (et_not (et_B (ev_spBtw (d := .int (c : Int)) (ev_var rfl) ev_c ev_c (.int _)))) (by rw [btw, decide_eq_true (by omega : (1 : Int) ≤ (c : Int)), decide_eq_true (by omega : (c : Int) ≤ 3)]; rfl)) (fun h => (nomatch h)) fun _ H1 e1 => ?_
    have edrop : ∀ {te : TE} {D : Ends} {tz : TS} {σ : L2.St} {H : Hp} {v : V}, Ev te σ H v → (∀ H1, Ex H H1 → tz D σ H1) → tSeq (tDrop te) tz D σ H := fun h k => h _ (Ex.refl _) _ fun H2 e2 => k H2 e2
    refine edrop (ev_spChk (ev_var rfl) (ev_var rfl) (dp_ex (eb.trans e1) _ _ hd) hf hok) fun H2 e2 => ?_
    have e02 := e1.trans e2
    have eb2 := eb.trans e02
    refine ⟨.int (c : Int), rfl, .ref x, rfl, x, C, dx, [], rfl, e02 _ _ hx, hc, n1, by decide, ?_⟩
    have eb3 := eb2.mut (o := .ins C dx (putF "_cells" (V.int (c : Int)) [])) hbx
    have hx3 : (upd H2 x (.ins C dx (putF "_cells" (V.int (c : Int)) []))) x = some (.ins C dx [("_cells", .int (c : Int))]) := upd_same
    generalize upd H2 x (.ins C dx (putF "_cells" (V.int (c : Int)) [])) = H3 at eb3 hx3 ⊢
    dsimp only
    refine ⟨v, rfl, v, .list bs, n, rfl, hcn2, dp_ex eb3 _ _ hd, hf, fun v' H4 e4 hq => ?_⟩
    refine ⟨.ref x, rfl, x, C, dx, [("_cells", .int (c : Int))], rfl, e4 _ _ hx3, hc, n2, by show 1 < 1000; decide, ?_⟩
    refine q _ ((eb3.trans e4).mut hbx) ⟨dx, v', upd_same, dq_to (fun a na => new_ex eb3 na) (fun a o na ho => ?_) _ _ hq⟩
    rw [upd_ne (fun e => by rw [e] at na; rw [show H3 x = none from na] at hx3; cases hx3)]
    exact ho
end
/-! ### what the law draws has no fault -/
theorem row_ok {c : Nat} {r : List Int} (h : okR c r) : rowD c (LI r) = true := by
  rw [rowD, List.length_map, decide_eq_true h.1, Bool.true_and, List.all_eq_true]
  intro x hx
  rw [List.mem_map] at hx
  obtain ⟨i, hi, rfl⟩ := hx
  have := h.2 i hi
  rw [btw, decide_eq_true this.1, decide_eq_true this.2]; rfl
theorem btw_nat {k m : Nat} (h : k < m) : btw 0 ((m : Int) - 1) (.int (k : Int)) = true := by
  rw [btw, decide_eq_true (by omega), decide_eq_true (by omega)]; rfl
theorem up_asc : ∀ (cs : List Nat), cs.Pairwise (· < ·) → up ((cs.map (Nat.cast : Nat → Int)).map PyData.int) = true
  | [], _ => rfl
  | [_], _ => rfl
  | a :: b :: r, h => by
    rw [List.pairwise_cons] at h
    have ab := h.1 b (List.mem_cons_self ..)
    have g := up_asc (b :: r) h.2
    show (decide ((a : Int) < (b : Int)) && up (PyData.int (b : Int) :: (r.map (Nat.cast : Nat → Int)).map PyData.int)) = true
    rw [decide_eq_true (by omega), Bool.true_and]
    exact g
theorem cells_ok {c : Nat} {cs : List Nat} (h : asc c cs) : cellsD c (LI (cs.map (Nat.cast : Nat → Int))) = true := by
  show (List.all _ _ && up _) = true
  rw [up_asc cs h.1, Bool.and_true, List.all_eq_true]
  intro x hx
  rw [List.map_map, List.mem_map] at hx
  obtain ⟨k, hk, rfl⟩ := hx
  exact btw_nat (h.2 k hk)
theorem stm_okD {c m lv : Nat} {s : Stm} (h : okS c m s lv) : stmD c m (toD s) = true := by
  cases s with
  | set k r =>
    rw [okS] at h; rw [toD]
    show (btw 0 ((c : Int) - 1) (.int (k : Int)) && rowD c (LI r)) = true
    rw [btw_nat h.1, row_ok h.2]; rfl
  | carry r =>
    rw [okS] at h; rw [toD]
    exact row_ok h
  | keep cs b =>
    rw [okS] at h; rw [toD]
    show (cellsD c (LI _) && true) = true
    rw [cells_ok h.2.1]; rfl
  | either a b => rw [toD]; rfl
  | again b => rw [toD]; rfl
  | call p r a b =>
    rw [okS] at h; rw [toD]
    show (btw 0 ((m : Int) - 1) (.int (p : Int)) && (rowD c (LI r) && true)) = true
    rw [btw_nat h.2.1, row_ok h.2.2.1]; rfl
  | fin w =>
    rw [okS] at h; rw [toD]
    show btw 0 1 (.int (w : Int)) = true
    exact btw_nat (m := 2) h
/-- the blocks -/
def blks : Stm → List (List Stm)
  | .keep _ b => [b]
  | .either a b => [a, b]
  | .again b => [b]
  | .call _ _ a b => [a, b]
  | _ => []
theorem blocks_toD (s : Stm) : blocksD (toD s) = (blks s).map fun b => .list (toDs b) := by
  cases s <;> rw [toD] <;> rfl
def itF (p : List Int) : Nat → List PyData → List (List Int × PyData)
  | _, [] => []
  | i, d :: r => (p ++ [(i : Int)], d) :: itF p (i + 1) r
theorem itF_is (p : List Int) : ∀ (ds : List PyData) (k : Nat), (List.range ds.length).map (fun (i : Nat) => (p ++ [((k + i : Nat) : Int)], ds.getD i .none)) = itF p k ds
  | [], k => rfl
  | d :: r, k => by
    rw [List.length_cons, List.range_succ_eq_map, List.map_cons, List.map_map, itF, ← itF_is p r (k + 1)]
    refine List.cons_eq_cons.mpr ⟨rfl, List.map_congr_left fun i _ => ?_⟩
    show (p ++ [((k + (i + 1) : Nat) : Int)], r.getD i .none) = (p ++ [((k + 1 + i : Nat) : Int)], r.getD i .none)
    rw [show k + (i + 1) = k + 1 + i by omega]
theorem itemsD_itF (p : List Int) (ds : List PyData) : itemsD p ds = itF p 0 ds := by
  rw [← itF_is p ds 0, itemsD]
  refine List.map_congr_left fun i _ => ?_
  rw [Nat.zero_add]
theorem lastI_at (p : List Int) (i : Int) : lastI (p ++ [i]) = i := by
  rw [lastI, List.length_append, List.length_singleton, Nat.add_sub_cancel, List.getD_eq_getElem?_getD, List.getElem?_append_right (Nat.le_refl _), Nat.sub_self]; rfl
theorem fits_ok {c m lv i : Nat} {s : Stm} {p : List Int} (h : okS c m s lv) (hp : p.length = 2 * lv) (hi : i < 8) : fitsD c m (p ++ [(i : Int)]) (toD s) = true := by
  rw [fitsD, lastI_at, stm_okD h, decide_eq_false (by omega), blocks_toD]
  show (true && (decide _ || _)) = true
  rw [Bool.true_and, List.length_append, hp, List.length_singleton]
  by_cases hl : lv < 3
  · rw [decide_eq_true (by omega)]; rfl
  · cases s with
    | keep _ _ => rw [okS] at h; exact absurd h.1 hl
    | either _ _ => rw [okS] at h; exact absurd h.1 hl
    | again _ => rw [okS] at h; exact absurd h.1 hl
    | call _ _ _ _ => rw [okS] at h; exact absurd h.1 hl
    | _ => exact Bool.or_true _
theorem ff_step {c m f many : Nat} {p : List Int} {d : PyData} {st : List (List Int × PyData)} (hf : fitsD c m p d = true) (hm : many < 12) : ffD c m (f + 1) ((p, d) :: st) many = ffD c m f (flatD p 0 (blocksD d) ++ st) (many + 1) := by
  rw [ffD, if_neg]
  rw [hf, decide_eq_false (by omega)]; simp
mutual
theorem ff_S {c m : Nat} : ∀ (s : Stm) {lv i f many : Nat} {p : List Int} {st : List (List Int × PyData)}, okS c m s lv → p.length = 2 * lv → i < 8 → many + cnt s ≤ 12 → ffD c m (f + cnt s) ((p ++ [(i : Int)], toD s) :: st) many = ffD c m f st (many + cnt s)
  | .set k r, lv, i, f, many, p, st, h, hp, hi, hm => by
    have hf := fits_ok h hp hi
    rw [cnt] at hm ⊢
    rw [ff_step hf (by omega), blocks_toD]; rfl
  | .carry r, lv, i, f, many, p, st, h, hp, hi, hm => by
    have hf := fits_ok h hp hi
    rw [cnt] at hm ⊢
    rw [ff_step hf (by omega), blocks_toD]; rfl
  | .fin r, lv, i, f, many, p, st, h, hp, hi, hm => by
    have hf := fits_ok h hp hi
    rw [cnt] at hm ⊢
    rw [ff_step hf (by omega), blocks_toD]; rfl
  | .keep cs b, lv, i, f, many, p, st, h, hp, hi, hm => by
    have hf := fits_ok h hp hi
    rw [okS] at h
    rw [cnt] at hm ⊢
    rw [show f + (1 + cntL b) = (f + cntL b) + 1 by omega, ff_step hf (by omega), blocks_toD]
    show ffD c m _ ((itemsD ((p ++ [(i : Int)]) ++ [((0 : Nat) : Int)]) (toDs b) ++ []) ++ st) _ = _
    rw [List.append_nil, itemsD_itF, ff_L b (lv := lv + 1) h.2.2.2 (by simp; omega) (by omega) (by omega)]
    exact congrArg _ (by omega)
  | .again b, lv, i, f, many, p, st, h, hp, hi, hm => by
    have hf := fits_ok h hp hi
    rw [okS] at h
    rw [cnt] at hm ⊢
    rw [show f + (1 + cntL b) = (f + cntL b) + 1 by omega, ff_step hf (by omega), blocks_toD]
    show ffD c m _ ((itemsD ((p ++ [(i : Int)]) ++ [((0 : Nat) : Int)]) (toDs b) ++ []) ++ st) _ = _
    rw [List.append_nil, itemsD_itF, ff_L b (lv := lv + 1) h.2.2 (by simp; omega) (by omega) (by omega)]
    exact congrArg _ (by omega)
  | .either a b, lv, i, f, many, p, st, h, hp, hi, hm => by
    have hf := fits_ok h hp hi
    rw [okS] at h
    rw [cnt] at hm ⊢
    rw [show f + (1 + cntL a + cntL b) = ((f + cntL b) + cntL a) + 1 by omega, ff_step hf (by omega), blocks_toD]
    show ffD c m _ ((itemsD ((p ++ [(i : Int)]) ++ [((0 : Nat) : Int)]) (toDs a) ++ (itemsD ((p ++ [(i : Int)]) ++ [((1 : Nat) : Int)]) (toDs b) ++ [])) ++ st) _ = _
    rw [List.append_nil, itemsD_itF, itemsD_itF, List.append_assoc, ff_L a (lv := lv + 1) h.2.2.1 (by simp; omega) (by omega) (by omega), ff_L b (lv := lv + 1) h.2.2.2.2 (by simp; omega) (by omega) (by omega)]
    exact congrArg _ (by omega)
  | .call q r a b, lv, i, f, many, p, st, h, hp, hi, hm => by
    have hf := fits_ok h hp hi
    rw [okS] at h
    rw [cnt] at hm ⊢
    rw [show f + (1 + cntL a + cntL b) = ((f + cntL b) + cntL a) + 1 by omega, ff_step hf (by omega), blocks_toD]
    show ffD c m _ ((itemsD ((p ++ [(i : Int)]) ++ [((0 : Nat) : Int)]) (toDs a) ++ (itemsD ((p ++ [(i : Int)]) ++ [((1 : Nat) : Int)]) (toDs b) ++ [])) ++ st) _ = _
    rw [List.append_nil, itemsD_itF, itemsD_itF, List.append_assoc, ff_L a (lv := lv + 1) h.2.2.2.2.1 (by simp; omega) (by omega) (by omega), ff_L b (lv := lv + 1) h.2.2.2.2.2.2 (by simp; omega) (by omega) (by omega)]
    exact congrArg _ (by omega)
theorem ff_L {c m : Nat} : ∀ (ss : List Stm) {lv i f many : Nat} {p : List Int} {st : List (List Int × PyData)}, okL c m ss lv → p.length = 2 * lv → i + ss.length ≤ 8 → many + cntL ss ≤ 12 → ffD c m (f + cntL ss) (itF p i (toDs ss) ++ st) many = ffD c m f st (many + cntL ss)
  | [], lv, i, f, many, p, st, h, hp, hi, hm => by rw [cntL, toDs, itF]; rfl
  | s :: r, lv, i, f, many, p, st, h, hp, hi, hm => by
    rw [okL] at h
    rw [cntL] at hm ⊢
    rw [List.length_cons] at hi
    rw [toDs, itF, List.cons_append, show f + (cnt s + cntL r) = (f + cntL r) + cnt s by omega, ff_S s h.1 hp (by omega) (by omega), ff_L r h.2 hp (by omega) (by omega)]
    exact congrArg _ (by omega)
end
theorem first_none {c m : Nat} {b : List Stm} (h : okB c m b) : firstD c m (toDs b) = none := by
  obtain ⟨h1, h2, h3⟩ := h
  rw [firstD, itemsD_itF, ← List.append_nil (itF _ _ _), show 13 = (13 - cntL b) + cntL b by omega, ff_L b h1 (by rfl) (by omega) (by omega), show 13 - cntL b = (12 - cntL b) + 1 by omega]
  rfl
theorem lv_len {n : Nat} {xs : List PyData} (h : xs.length ≤ 10000) (g : fitAll xs n = true) : fit (.list xs) (n + 1) = true := by
  rw [fit, decide_eq_true h, g]; rfl
theorem lv_tup {n : Nat} {xs : List PyData} (h : xs.length ≤ 10000) (g : fitAll xs n = true) : fit (.tuple xs) (n + 1) = true := by
  rw [fit, decide_eq_true h, g]; rfl
theorem asc_from : ∀ (cs : List Nat) (lo c : Nat), cs.Pairwise (· < ·) → (∀ k ∈ cs, lo ≤ k ∧ k < c) → cs.length ≤ c - lo
  | [], lo, c, _, _ => Nat.zero_le _
  | a :: r, lo, c, h, g => by
    rw [List.pairwise_cons] at h
    have ga := g a (List.mem_cons_self ..)
    have := asc_from r (a + 1) c h.2 fun k hk => ⟨h.1 k hk, (g k (List.mem_cons_of_mem _ hk)).2⟩
    rw [List.length_cons]
    omega
theorem asc_len {c : Nat} {cs : List Nat} (h : asc c cs) : cs.length ≤ c := asc_from cs 0 c h.1 fun k hk => ⟨Nat.zero_le _, h.2 k hk⟩
mutual
theorem fit_S {c m : Nat} (hc : c ≤ 3) : ∀ (s : Stm) {lv n : Nat}, okS c m s lv → 3 * (3 - lv) + 3 ≤ n → fit (toD s) n = true
  | .set k r, lv, n, h, hn => by
    rw [okS] at h; rw [toD]
    obtain ⟨j, rfl⟩ : ∃ j, n = j + 2 := ⟨n - 2, by omega⟩
    refine lv_tup (by show 3 ≤ 10000; decide) ?_
    simp only [fitAll, fit, Bool.true_and, Bool.and_true]
    exact fit_LI (n := j) (by rw [h.2.1]; omega)
  | .carry r, lv, n, h, hn => by
    rw [okS] at h; rw [toD]
    obtain ⟨j, rfl⟩ : ∃ j, n = j + 2 := ⟨n - 2, by omega⟩
    refine lv_tup (by show 2 ≤ 10000; decide) ?_
    simp only [fitAll, fit, Bool.true_and, Bool.and_true]
    exact fit_LI (n := j) (by rw [h.1]; omega)
  | .keep cs b, lv, n, h, hn => by
    rw [okS] at h; rw [toD]
    obtain ⟨j, rfl⟩ : ∃ j, n = j + 2 := ⟨n - 2, by omega⟩
    refine lv_tup (by show 3 ≤ 10000; decide) ?_
    have h1 := fit_LI (l := cs.map (Nat.cast : Nat → Int)) (n := j) (by rw [List.length_map]; have := asc_len h.2.1; omega)
    have h2 := lv_len (n := j) (by rw [toDs_len]; omega) (fit_L hc b h.2.2.2 (by omega))
    have h5 : fit (.str "keep") (j + 1) = true := rfl
    rw [fitAll, fitAll, fitAll, fitAll, h5, h1, h2]; rfl
  | .again b, lv, n, h, hn => by
    rw [okS] at h; rw [toD]
    obtain ⟨j, rfl⟩ : ∃ j, n = j + 2 := ⟨n - 2, by omega⟩
    refine lv_tup (by show 2 ≤ 10000; decide) ?_
    have h2 := lv_len (n := j) (by rw [toDs_len]; omega) (fit_L hc b h.2.2 (by omega))
    have h5 : fit (.str "again") (j + 1) = true := rfl
    rw [fitAll, fitAll, fitAll, h5, h2]; rfl
  | .either a b, lv, n, h, hn => by
    rw [okS] at h; rw [toD]
    obtain ⟨j, rfl⟩ : ∃ j, n = j + 2 := ⟨n - 2, by omega⟩
    refine lv_tup (by show 3 ≤ 10000; decide) ?_
    have h1 := lv_len (n := j) (by rw [toDs_len]; omega) (fit_L hc a h.2.2.1 (by omega))
    have h2 := lv_len (n := j) (by rw [toDs_len]; omega) (fit_L hc b h.2.2.2.2 (by omega))
    have h5 : fit (.str "either") (j + 1) = true := rfl
    rw [fitAll, fitAll, fitAll, fitAll, h5, h1, h2]; rfl
  | .call p r a b, lv, n, h, hn => by
    rw [okS] at h; rw [toD]
    obtain ⟨j, rfl⟩ : ∃ j, n = j + 3 := ⟨n - 3, by omega⟩
    refine lv_tup (by show 4 ≤ 10000; decide) ?_
    have h1 := fit_LI (l := r) (n := j + 1) (by rw [h.2.2.1.1]; omega)
    have h2 := lv_len (n := j) (by rw [toDs_len]; omega) (fit_L hc a h.2.2.2.2.1 (by omega))
    have h3 := lv_len (n := j) (by rw [toDs_len]; omega) (fit_L hc b h.2.2.2.2.2.2 (by omega))
    have h4 : fit (.list [.list (toDs a), .list (toDs b)]) (j + 2) = true := lv_len (by show 2 ≤ 10000; decide) (by rw [fitAll, fitAll, fitAll, h2, h3]; rfl)
    have h5 : fit (.str "call") (j + 2) = true := rfl
    have h6 : fit (.int (p : Int)) (j + 2) = true := rfl
    rw [fitAll, fitAll, fitAll, fitAll, fitAll, h5, h6, h1, h4]; rfl
  | .fin w, lv, n, h, hn => by
    rw [toD]
    obtain ⟨j, rfl⟩ : ∃ j, n = j + 2 := ⟨n - 2, by omega⟩
    refine lv_tup (by show 2 ≤ 10000; decide) ?_
    rfl
theorem fit_L {c m : Nat} (hc : c ≤ 3) : ∀ (ss : List Stm) {lv n : Nat}, okL c m ss lv → 3 * (3 - lv) + 3 ≤ n → fitAll (toDs ss) n = true
  | [], lv, n, h, hn => by rw [toDs, fitAll]
  | s :: r, lv, n, h, hn => by
    rw [okL] at h
    rw [toDs, fitAll, fit_S hc s h.1 hn, fit_L hc r h.2 hn]; rfl
end
/-- the known words -/
def okWords (ok : Str → Prop) : Prop := ok "set" ∧ ok "carry" ∧ ok "keep" ∧ ok "either" ∧ ok "again" ∧ ok "call" ∧ ok "end"
theorem allWs_ints {ok : Str → Prop} : ∀ l : List Int, allWs ok (l.map PyData.int)
  | [] => by rw [List.map_nil, allWs]; trivial
  | i :: r => by
    rw [List.map_cons, allWs, allW]
    · exact ⟨trivial, allWs_ints r⟩
    all_goals (intro _ h; cases h)
mutual
theorem allW_S {ok : Str → Prop} (o : okWords ok) : ∀ s : Stm, allW ok (toD s)
  | .set k r => by
    rw [toD]
    simp only [allW, allWs, wordOk, and_true, true_and]
    exact ⟨o.1, allWs_ints r⟩
  | .carry r => by
    rw [toD]
    simp only [allW, allWs, wordOk, and_true, true_and]
    exact ⟨o.2.1, allWs_ints r⟩
  | .keep cs b => by
    rw [toD]
    simp only [allW, allWs, wordOk, and_true, true_and]
    exact ⟨o.2.2.1, allWs_ints _, allW_L o b⟩
  | .either a b => by
    rw [toD]
    simp only [allW, allWs, wordOk, and_true, true_and]
    exact ⟨o.2.2.2.1, allW_L o a, allW_L o b⟩
  | .again b => by
    rw [toD]
    simp only [allW, allWs, wordOk, and_true, true_and]
    exact ⟨o.2.2.2.2.1, allW_L o b⟩
  | .call p r a b => by
    rw [toD]
    simp only [allW, allWs, wordOk, and_true, true_and]
    exact ⟨o.2.2.2.2.2.1, allWs_ints r, allW_L o a, allW_L o b⟩
  | .fin w => by
    rw [toD]
    simp only [allW, allWs, wordOk, and_true, true_and]
    exact o.2.2.2.2.2.2
theorem allW_L {ok : Str → Prop} (o : okWords ok) : ∀ ss : List Stm, allWs ok (toDs ss)
  | [] => by rw [toDs, allWs]; trivial
  | s :: r => by
    rw [toDs, allWs]
    exact ⟨allW_S o s, allW_L o r⟩
end
theorem toB_ok {ok : Str → Prop} {c m : Nat} (o : okWords ok) {bs : List (List Stm)} (hl : bs.length = m) (m1 : 1 ≤ m) (m3 : m ≤ 3) (h : ∀ b ∈ bs, okB c m b) : okBodies ok c (bs.map bD) := by
  refine ⟨by rw [List.length_map]; omega, by rw [List.length_map]; omega, fun b hb => ?_⟩
  rw [List.mem_map] at hb
  obtain ⟨b, hb, rfl⟩ := hb
  refine ⟨toDs b, rfl, fun e he => allWs_mem (allW_L o b) he, ?_⟩
  rw [List.length_map, hl]
  exact first_none (h b hb)
theorem toB_fit {c m : Nat} (hc : c ≤ 3) {bs : List (List Stm)} (hl : bs.length ≤ 10000) (h : ∀ b ∈ bs, okB c m b) : fit (toB bs) 14 = true := by
  refine lv_len (by rw [List.length_map]; exact hl) ?_
  induction bs with
  | nil => rfl
  | cons b r ih =>
    have hb := h b (List.mem_cons_self ..)
    have g := lv_len (n := 12) (by rw [toDs_len]; have := hb.2.1; omega) (fit_L hc b hb.1 (by decide))
    rw [List.map_cons, fitAll, show fit (bD b) 13 = true from g, ih (by rw [List.length_cons] at hl; omega) fun b hb => h b (List.mem_cons_of_mem _ hb)]; rfl
/-! ### what the law compares may be compared -/
mutual
theorem fit_depth : ∀ (d : PyData) (n : Nat), fit d n = true → PyData.depth d ≤ n
  | .none, _, _ => by simp [PyData.depth]
  | .bool _, _, _ => by simp [PyData.depth]
  | .int _, _, _ => by simp [PyData.depth]
  | .str _, _, _ => by simp [PyData.depth]
  | .list xs, 0, h => by simp [fit] at h
  | .list xs, n + 1, h => by
    rw [fit, Bool.and_eq_true] at h
    have := fit_depthAll xs n h.2
    rw [PyData.depth]; omega
  | .tuple xs, 0, h => by simp [fit] at h
  | .tuple xs, n + 1, h => by
    rw [fit, Bool.and_eq_true] at h
    have := fit_depthAll xs n h.2
    rw [PyData.depth]; omega
  | .dict _, _, h => by simp [fit] at h
theorem fit_depthAll : ∀ (ds : List PyData) (n : Nat), fitAll ds n = true → PyData.depthAll ds ≤ n
  | [], _, _ => by simp [PyData.depthAll]
  | d :: ds, n, h => by
    rw [fitAll, Bool.and_eq_true] at h
    have h1 := fit_depth d n h.1
    have h2 := fit_depthAll ds n h.2
    rw [PyData.depthAll]; omega
end
theorem shaped_of {d : PyData} {n : Nat} (h : fit d n = true) (hn : n ≤ 64) (hl : d.canLay0 = true) : SeqAt.shaped d = true := by
  rw [SeqAt.shaped, hl, Bool.true_and, decide_eq_true_eq]
  have := fit_depth d n h
  omega
theorem canLay_ints : ∀ l : List Int, PyData.canLayAll0 (l.map PyData.int) = true
  | [] => by simp [PyData.canLayAll0]
  | i :: r => by
    rw [List.map_cons, PyData.canLayAll0, canLay_ints r, Bool.and_true]
    simp [PyData.canLay0]
theorem depth_ints : ∀ l : List Int, PyData.depthAll (l.map PyData.int) = 0
  | [] => by simp [PyData.depthAll]
  | i :: r => by
    rw [List.map_cons, PyData.depthAll, depth_ints r]
    simp [PyData.depth]
theorem lay_LI (l : List Int) : (LI l).canLay0 = true := by
  rw [PyData.canLay0]; exact canLay_ints l
mutual
theorem lay_S : ∀ s : Stm, (toD s).canLay0 = true
  | .set k r => by
    rw [toD, PyData.canLay0]
    simp only [PyData.canLayAll0, lay_LI, Bool.and_true]
    simp only [PyData.canLay0, Bool.and_true]
    decide +kernel
  | .carry r => by
    rw [toD, PyData.canLay0]
    simp only [PyData.canLayAll0, lay_LI, Bool.and_true]
    decide +kernel
  | .keep cs b => by
    rw [toD, PyData.canLay0]
    have hb := lay_L b
    have h1 : (PyData.list (toDs b)).canLay0 = true := by rw [PyData.canLay0]; exact hb
    simp only [PyData.canLayAll0, lay_LI, h1, Bool.and_true]
    decide +kernel
  | .either a b => by
    rw [toD, PyData.canLay0]
    have h1 : (PyData.list (toDs a)).canLay0 = true := by rw [PyData.canLay0]; exact lay_L a
    have h2 : (PyData.list (toDs b)).canLay0 = true := by rw [PyData.canLay0]; exact lay_L b
    simp only [PyData.canLayAll0, h1, h2, Bool.and_true]
    decide +kernel
  | .again b => by
    rw [toD, PyData.canLay0]
    have h2 : (PyData.list (toDs b)).canLay0 = true := by rw [PyData.canLay0]; exact lay_L b
    simp only [PyData.canLayAll0, h2, Bool.and_true]
    decide +kernel
  | .call p r a b => by
    rw [toD, PyData.canLay0]
    have h1 : (PyData.list (toDs a)).canLay0 = true := by rw [PyData.canLay0]; exact lay_L a
    have h2 : (PyData.list (toDs b)).canLay0 = true := by rw [PyData.canLay0]; exact lay_L b
    have h3 : (PyData.list [.list (toDs a), .list (toDs b)]).canLay0 = true := by rw [PyData.canLay0]; simp only [PyData.canLayAll0, h1, h2]; rfl
    simp only [PyData.canLayAll0, lay_LI, h3, Bool.and_true]
    simp only [PyData.canLay0, Bool.and_true]
    decide +kernel
  | .fin w => by
    rw [toD, PyData.canLay0]
    simp only [PyData.canLayAll0, PyData.canLay0, Bool.and_true]
    decide +kernel
theorem lay_L : ∀ ss : List Stm, PyData.canLayAll0 (toDs ss) = true
  | [] => by rw [toDs]; simp [PyData.canLayAll0]
  | s :: r => by rw [toDs, PyData.canLayAll0, lay_S s, lay_L r]; rfl
end
/-! ### own rules: len(x), x[i, j] by a class's own __len__ and __getitem__ -/
section
variable {X : Cx} {CX : CXT} {C f : Addr} {fd : FuncData} {ps : List Str} {sp : Sp} {E : XK} {k : Nat}
theorem env_in1 {pins : List (Addr × Obj)} {σ : L2.St} {H : Hp} {s : Shared} (I : Inv X pins σ H s) : Env0 X.prog X.w X.K X.mg X.base X.A.in1 X.stack s H :=
  have e := I.env0
  ⟨e.frames, e.mod, e.bs, e.bsz, e.funs, e.frf, e.hok, e.bare⟩
/-- the call of an own def, one step in -/
theorem run_in1 {pins : List (Addr × Obj)} {σ : L2.St} {H : Hp} {s : Shared} {Q : VK} {us : List Value} {vs : List V} (F : FnOk X.prog X.w X.K X.mg X.base CX k f fd ps sp) (hb : Binds X.K fd ps []) (hr : Room (k + 1) X.A) (hx : Passes CX X E) (I : Inv X pins σ H s) (r : Vals vs us) (h : sp vs H Q E) :
    wpAny (model X.prog X.w) X.A.in1 (call (.ref f) us) (EP X pins σ Q) X.xe s := by
  have hl := F.len _ _ _ _ h
  refine wpAny_call (codeAny_mono (F.run X.A.in1 X.stack s H ⟨us, []⟩ us vs _ E hr.in1 (env_in1 I) (by
    have := hb s us I.kIn (by rw [List.append_nil, ← r.length]; exact hl)
    simpa using this) r h) fun r s' hq => ?_)
  cases r with
  | error e => exact hx pins σ H s e s' I hq
  | ok fl =>
    cases fl with
    | ret w => exact I.after hq
    | next => exact False.elim hq
    | brk => exact False.elim hq
    | cont => exact False.elim hq
theorem call_lenOwn (F : FnOk X.prog X.w X.K X.mg X.base CX k f fd ps sp) (hs : PySem.W.findIn X.K (.ref C) "__len__" = some (some (.ref f))) (hf : PySem.W.isFn X.K (.ref f) = true) (hb : Binds X.K fd ps []) (hr : Room (k + 1) X.A) (hx : Passes CX X E) :
    CallR X (.builtin "len") (fun xs H Q => ∃ a dx fs, xs = [.ref a] ∧ H a = some (.ins C dx fs) ∧ sp [.ref a] H (fun v H' => ∃ n : Nat, n < 4611686018427387904 ∧ v = .int (n : Int) ∧ Q (.int (n : Int)) H') E) := by
  intro pins s σ H xs us Q I r h
  obtain ⟨a, dx, fs, rfl, ha, hsp⟩ := h
  obtain ⟨u, rfl, ru⟩ := vals1 r
  obtain rfl : u = Value.ref a := ru
  obtain ⟨mA, J, _⟩ := ins_get I.hok ha
  obtain ⟨od, J, _⟩ := J.look
  obtain ⟨m, hF⟩ := I.fr
  refine PySem.W.len_K hF I.ok.mod.kin J hs hf (wpAny_mono (run_in1 F hb hr hx I (show Vals [V.ref a] [Value.ref a] from .cons rfl .nil) hsp) (fun v s' hq => ?_) fun _ _ x => x)
  obtain ⟨z, H', I', rz, n, hn, rfl, q⟩ := hq
  obtain ⟨t, rfl⟩ := rz
  exact ⟨⟨by omega, by omega⟩, .int n, H', I'.tok _, ⟨_, rfl⟩, q⟩
/-- a[b] by the class's own __getitem__ -/
theorem pe_ixOwn {a b : Expr} {ta tb : TE} {pos : Pos} (F : FnOk X.prog X.w X.K X.mg X.base CX k f fd ps sp) (hs : PySem.W.findIn X.K (.ref C) "__getitem__" = some (some (.ref f))) (hfn : PySem.W.fnIn X.K f = true) (hf : PySem.W.isFn X.K (.ref f) = true) (hb : Binds X.K fd ps []) (hr : Room (k + 1) X.A) (hx : Passes CX X E)
    (ha : PE X a ta) (hbb : PE X b tb) (hsl : ∀ x i, subscripted b true (.ref x) i = runValue (.builtin "lifetime.subscript" ⟨[.ref x, i], []⟩)) :
    PE X (.Subscript a b pos) (fun σ H Q => ta σ H fun x H1 => tb σ H1 fun y H2 => ∃ p dx fs, x = .ref p ∧ H2 p = some (.ins C dx fs) ∧ sp [.ref p, y] H2 Q E) := by
  refine ⟨fun pins s σ H Q I h => ?_⟩
  refine Subscript_ (binT ha hbb I h fun v u s2 x y H2 I2 rx ry q => ?_)
  obtain ⟨p, dx, fs, rfl, hp, hsp⟩ := q
  cases rx
  obtain ⟨mA, J, _⟩ := ins_get I2.hok hp
  obtain ⟨od, J, _⟩ := J.look
  obtain ⟨m, hF⟩ := I2.fr
  exact PySem.W.sub_K hF I2.ok.mod.kin J hs hfn hf (run_in1 F hb hr hx I2 (show Vals [V.ref p, y] [Value.ref p, u] from .cons rfl (.cons ry .nil)) hsp) (hsl _ _)
end
section
variable {X : Cx} {CX : CXT} {C f : Addr} {fd : FuncData} {ps : List Str} {sp : Sp} {E : XK} {k : Nat}
/-- x == y by the class's own __eq__, whatever it tells -/
theorem op_eqOwn (F : FnOk X.prog X.w X.K X.mg X.base CX k f fd ps sp) (hs : PySem.W.findIn X.K (.ref C) "__eq__" = some (some (.ref f))) (hf : PySem.W.isFn X.K (.ref f) = true) (hb : Binds X.K fd ps []) (hr : Room k X.A) (hx : Passes CX X E) :
    OpR X (compareOp .Eq) (fun x y H Q => ∃ a b dx dy fs gs, x = .ref a ∧ y = .ref b ∧ H a = some (.ins C dx fs) ∧ H b = some (.ins C dy gs) ∧ sp [.ref a, .ref b] H (fun v H' => ∃ t, v = .bl t ∧ Q (.bl t) H') E) := by
  intro pins s σ H x y v u Q I rx ry hq
  obtain ⟨a, b, dx, dy, fs, gs, rfl, rfl, ha, hb', hsp⟩ := hq
  cases rx
  cases ry
  obtain ⟨mA, J, _⟩ := ins_get I.hok ha
  obtain ⟨mB, J', _⟩ := ins_get I.hok hb'
  obtain ⟨od, J, _⟩ := J.look
  obtain ⟨od', J', _⟩ := J'.look
  obtain ⟨m, hF⟩ := I.fr
  show wpAny (model X.prog X.w) X.A (richCompare .Eq (.ref a) (.ref b)) (EP X pins σ Q) X.xe s
  have r2 : Vals [V.ref a, V.ref b] [Value.ref a, Value.ref b] := .cons rfl (.cons rfl .nil)
  refine PySem.W.cmp_K (op := .Eq) (tb := .ref C) hr.units0 hF I.ok.mod.kin J J'.type (by simp [PySem.W.notFirst]) hs hf (wpAny_mono (run_fn (dvs := []) F hr hb .nil hx I r2 hsp) (fun v s' hq => ?_) fun _ _ x => x)
  obtain ⟨z, H', I', rz, t, rfl, q⟩ := hq
  cases rz
  exact ⟨.bl t, H', I', rfl, q⟩
end
/-! ### the seven words -/
def ok7 (x : Str) : Prop := x = Str.ofString "set" ∨ x = Str.ofString "carry" ∨ x = Str.ofString "keep" ∨ x = Str.ofString "either" ∨ x = Str.ofString "again" ∨ x = Str.ofString "call" ∨ x = Str.ofString "end"
theorem ok7_words : okWords ok7 := ⟨.inl rfl, .inr (.inl rfl), .inr (.inr (.inl rfl)), .inr (.inr (.inr (.inl rfl))), .inr (.inr (.inr (.inr (.inl rfl)))), .inr (.inr (.inr (.inr (.inr (.inl rfl))))), .inr (.inr (.inr (.inr (.inr (.inr rfl)))))⟩
theorem sizes7 {K : PySem.W.Frag} {w : World} {a : Addr} {es : Array DictEntry} {n : Nat} {t0 t1 t2 t3 t4 t5 t6 : Tok} (d : KDict K w a es n) (h0 : PySem.W.nsIn K a "set" = some (some (.int 3 t0))) (h1 : PySem.W.nsIn K a "carry" = some (some (.int 2 t1))) (h2 : PySem.W.nsIn K a "keep" = some (some (.int 3 t2)))
    (h3 : PySem.W.nsIn K a "either" = some (some (.int 3 t3))) (h4 : PySem.W.nsIn K a "again" = some (some (.int 2 t4))) (h5 : PySem.W.nsIn K a "call" = some (some (.int 4 t5))) (h6 : PySem.W.nsIn K a "end" = some (some (.int 2 t6))) : Sizes K w a es n ok7 := by
  obtain ⟨z0, z1, z2, z3, z4, z5, z6⟩ := szw
  refine ⟨d, fun x m hx hm => ?_, fun x hx hm => ?_⟩
  · rcases hx with rfl | rfl | rfl | rfl | rfl | rfl | rfl
    · cases z0.symm.trans hm; exact ⟨_, h0⟩
    · cases z1.symm.trans hm; exact ⟨_, h1⟩
    · cases z2.symm.trans hm; exact ⟨_, h2⟩
    · cases z3.symm.trans hm; exact ⟨_, h3⟩
    · cases z4.symm.trans hm; exact ⟨_, h4⟩
    · cases z5.symm.trans hm; exact ⟨_, h5⟩
    · cases z6.symm.trans hm; exact ⟨_, h6⟩
  · rcases hx with rfl | rfl | rfl | rfl | rfl | rfl | rfl
    · cases z0.symm.trans hm
    · cases z1.symm.trans hm
    · cases z2.symm.trans hm
    · cases z3.symm.trans hm
    · cases z4.symm.trans hm
    · cases z5.symm.trans hm
    · cases z6.symm.trans hm
/-! ### the first fault, found by descending: the same as by the stack -/
def badS (c m lv : Nat) (d : PyData) : Bool := !(stmD c m d && (decide (lv < 3) || (blocksD d).isEmpty))
abbrev Fnd := Option (List Int) × Nat
def lfs (F : List Int → List PyData → Nat → Fnd) (here : List Int) : Nat → List PyData → Nat → Fnd
  | _, [], met => (none, met)
  | k, b :: r, met => if (F (here ++ [(k : Int)]) (elems b) met).1.isSome = true then F (here ++ [(k : Int)]) (elems b) met else lfs F here (k + 1) r (F (here ++ [(k : Int)]) (elems b) met).2
def lfi (c m lv : Nat) (G : List Int → PyData → Nat → Fnd) (path : List Int) : Nat → List PyData → Nat → Fnd
  | _, [], met => (none, met)
  | i, d :: r, met => if (decide (i = 8) || decide (met = 12) || badS c m lv d) = true then (some (path ++ [(i : Int)]), met) else
    if (G (path ++ [(i : Int)]) d (met + 1)).1.isSome = true then G (path ++ [(i : Int)]) d (met + 1) else lfi c m lv G path (i + 1) r (G (path ++ [(i : Int)]) d (met + 1)).2
def lf (c m : Nat) : Nat → Nat → List Int → List PyData → Nat → Fnd
  | 0, _, _, _, met => (none, met)
  | n + 1, lv, path, ds, met => lfi c m lv (fun here d met => lfs (lf c m n (lv + 1)) here 0 (blocksD d) met) path 0 ds met
def itG (p : List Int) : Nat → List PyData → List (List Int × PyData)
  | _, [] => []
  | i, d :: r => (p ++ [(i : Int)], d) :: itG p (i + 1) r
theorem itG_get (p : List Int) : ∀ (ds : List PyData) (i j : Nat), (itG p i ds)[j]? = (ds[j]?).map fun d => (p ++ [((i + j : Nat) : Int)], d)
  | [], i, j => by rw [itG]; simp
  | d :: r, i, 0 => by rw [itG]; simp
  | d :: r, i, j + 1 => by
    rw [itG, List.getElem?_cons_succ, itG_get p r (i + 1) j, List.getElem?_cons_succ, show i + 1 + j = i + (j + 1) by omega]
theorem itG_items (p : List Int) (ds : List PyData) : itemsD p ds = itG p 0 ds := by
  apply List.ext_getElem?
  intro j
  rw [itG_get, itemsD, List.getElem?_map, Nat.zero_add]
  by_cases h : j < ds.length
  · rw [List.getElem?_range h, List.getElem?_eq_getElem h]
    simp [List.getD_eq_getElem?_getD, List.getElem?_eq_getElem h]
  · rw [List.getElem?_eq_none (by rw [List.length_range]; omega), List.getElem?_eq_none (by omega)]; rfl
/-- what is found stands for the reading of S ahead of anything -/
def Rds (c m : Nat) (r : Fnd) (S : List (List Int × PyData)) (met : Nat) : Prop := ∀ f st, 13 ≤ f + met → (∀ p, r.1 = some p → ffD c m f (S ++ st) met = some p) ∧ (r.1 = none → met ≤ r.2 ∧ r.2 ≤ 12 ∧ ∃ f', 13 ≤ f' + r.2 ∧ ffD c m f (S ++ st) met = ffD c m f' st r.2)
theorem rds_nil {c m met : Nat} (h : met ≤ 12) : Rds c m (none, met) [] met := fun f st hf => ⟨fun p e => (nomatch e), fun _ => ⟨Nat.le_refl _, h, f, hf, rfl⟩⟩
theorem rds_app {c m met : Nat} {r r2 : Fnd} {S S2 : List (List Int × PyData)} (h1 : Rds c m r S met) (h2 : r.1 = none → met ≤ r.2 → r.2 ≤ 12 → Rds c m r2 S2 r.2) : Rds c m (if r.1.isSome = true then r else r2) (S ++ S2) met := fun f st hf => by
  obtain ⟨a, b⟩ := h1 f (S2 ++ st) hf
  rw [List.append_assoc]
  cases e : r.1 with
  | some p =>
    rw [Option.isSome_some, if_pos rfl]
    exact ⟨fun q hq => a q hq, fun hq => by rw [e] at hq; cases hq⟩
  | none =>
    rw [Option.isSome_none, if_neg (by decide)]
    obtain ⟨b1, b2, f', b3, b4⟩ := b e
    obtain ⟨x, y⟩ := h2 e b1 b2 f' st b3
    rw [b4]
    exact ⟨x, fun hq => by
      obtain ⟨y1, y2, y3⟩ := y hq
      exact ⟨by omega, y2, y3⟩⟩
theorem rds_lfs {c m : Nat} {F : List Int → List PyData → Nat → Fnd} {here : List Int} : ∀ (bs : List PyData) (k met : Nat), met ≤ 12 → (∀ (j : Nat) (ds : List PyData) (met : Nat), met ≤ 12 → Rds c m (F (here ++ [(j : Int)]) ds met) (itemsD (here ++ [(j : Int)]) ds) met) → Rds c m (lfs F here k bs met) (flatD here k bs) met
  | [], k, met, h, _ => by rw [lfs, flatD]; exact rds_nil h
  | b :: r, k, met, h, hF => by
    rw [lfs, flatD]
    exact rds_app (hF k (elems b) met h) fun _ _ h2 => rds_lfs r (k + 1) _ h2 hF
theorem last_app (p : List Int) (i : Int) : lastI (p ++ [i]) = i := by
  rw [lastI, List.length_append, List.length_singleton, Nat.add_sub_cancel, List.getD_eq_getElem?_getD, List.getElem?_append_right (Nat.le_refl _), Nat.sub_self]; rfl
theorem fits_bad {c m lv i : Nat} {path : List Int} {d : PyData} (hp : path.length = 2 * lv) (hi : i ≤ 8) : fitsD c m (path ++ [(i : Int)]) d = !(decide (i = 8) || badS c m lv d) := by
  rw [fitsD, last_app, badS, List.length_append, List.length_singleton, hp, show (2 * lv + 1) / 2 = lv by omega]
  have : decide ((8 : Int) ≤ (i : Int)) = decide (i = 8) := by
    rw [decide_eq_decide]; omega
  rw [this]
  cases decide (i = 8) <;> cases stmD c m d <;> cases decide (lv < 3) <;> cases (blocksD d).isEmpty <;> rfl
theorem rds_one {c m lv met i : Nat} {path : List Int} {d : PyData} {r : Fnd} (hp : path.length = 2 * lv) (hi : i ≤ 8) (hm : met ≤ 12) (h : (decide (i = 8) || decide (met = 12) || badS c m lv d) = false → Rds c m r (flatD (path ++ [(i : Int)]) 0 (blocksD d)) (met + 1)) :
    Rds c m (if (decide (i = 8) || decide (met = 12) || badS c m lv d) = true then (some (path ++ [(i : Int)]), met) else r) [(path ++ [(i : Int)], d)] met := fun f st hf => by
  obtain ⟨f, rfl⟩ : ∃ g, f = g + 1 := ⟨f - 1, by omega⟩
  have e12 : decide (12 < met + 1) = decide (met = 12) := decide_eq_decide.mpr ⟨fun h => by omega, fun h => by omega⟩
  have key : (decide (12 < met + 1) || !fitsD c m (path ++ [(i : Int)]) d) = (decide (i = 8) || decide (met = 12) || badS c m lv d) := by
    rw [e12, fits_bad hp hi, Bool.not_not]
    cases decide (i = 8) <;> cases decide (met = 12) <;> rfl
  rw [List.singleton_append, ffD, key]
  cases e : (decide (i = 8) || decide (met = 12) || badS c m lv d) with
  | true =>
    rw [if_pos rfl, if_pos rfl]
    exact ⟨fun p hp => hp, fun hq => by cases hq⟩
  | false =>
    rw [if_neg (by decide), if_neg (by decide)]
    obtain ⟨a, b⟩ := h e f st (by omega)
    exact ⟨a, fun hq => by
      obtain ⟨b1, b2⟩ := b hq
      exact ⟨by omega, b2⟩⟩
theorem if_if {α : Type} {a : Bool} {x y : α} : (if a = true then x else y) = if a = true then x else y := rfl
theorem rds_lfi {c m lv : Nat} {G : List Int → PyData → Nat → Fnd} {path : List Int} (hp : path.length = 2 * lv) (hG : ∀ (i : Nat) (d : PyData) (met : Nat), met ≤ 12 → badS c m lv d = false → Rds c m (G (path ++ [(i : Int)]) d met) (flatD (path ++ [(i : Int)]) 0 (blocksD d)) met) :
    ∀ (ds : List PyData) (i met : Nat), i ≤ 8 → met ≤ 12 → Rds c m (lfi c m lv G path i ds met) (itG path i ds) met
  | [], i, met, _, h => by rw [lfi, itG]; exact rds_nil h
  | d :: r, i, met, hi, hm => by
    rw [lfi, itG]
    cases e : (decide (i = 8) || decide (met = 12) || badS c m lv d) with
    | true =>
      rw [if_pos rfl]
      have := rds_app (S2 := itG path (i + 1) r) (r2 := (none, 0)) (rds_one (c := c) (m := m) (d := d) (r := (none, 0)) hp hi hm fun z => by rw [e] at z; cases z) (fun z => by rw [e, if_pos rfl] at z; cases z)
      rw [e, if_pos rfl] at this
      exact this
    | false =>
      rw [if_neg (by decide)]
      simp only [Bool.or_eq_false_iff, decide_eq_false_iff_not] at e
      obtain ⟨⟨e1, e2⟩, e3⟩ := e
      have e' : (decide (i = 8) || decide (met = 12) || badS c m lv d) = false := by simp [e1, e2, e3]
      have h1 := rds_one (c := c) (m := m) (d := d) (r := G (path ++ [(i : Int)]) d (met + 1)) hp hi hm fun _ => hG i d (met + 1) (by omega) e3
      rw [e', if_neg (by decide)] at h1
      exact rds_app h1 fun _ _ h2 => rds_lfi hp hG r (i + 1) _ (by omega) h2
theorem rds_lf {c m : Nat} : ∀ (n lv : Nat) (path : List Int) (ds : List PyData) (met : Nat), n + lv = 4 → 1 ≤ n → path.length = 2 * lv → met ≤ 12 → Rds c m (lf c m n lv path ds met) (itemsD path ds) met
  | 0, _, _, _, _, _, h, _, _ => by omega
  | n + 1, lv, path, ds, met, hn, _, hp, hm => by
    rw [lf, itG_items]
    refine rds_lfi hp (fun i d met h hb => ?_) ds 0 met (by decide) hm
    by_cases h3 : lv < 3
    · exact rds_lfs _ 0 met h fun j ds met h => rds_lf n (lv + 1) _ ds met (by omega) (by omega) (by rw [List.length_append, List.length_append, List.length_singleton, List.length_singleton, hp]; omega) h
    · have hz : blocksD d = [] := by
        rw [badS, decide_eq_false h3, Bool.false_or, Bool.not_eq_false', Bool.and_eq_true] at hb
        exact List.isEmpty_iff.mp hb.2
      rw [hz, lfs, flatD]
      exact rds_nil h
/-- the descent finds what the stack finds -/
theorem lf_first (c m : Nat) (ds : List PyData) : (lf c m 4 0 [] ds 0).1 = firstD c m ds := by
  obtain ⟨a, b⟩ := rds_lf (c := c) (m := m) 4 0 [] ds 0 rfl (by decide) rfl (by decide) 13 [] (by decide)
  rw [List.append_nil] at a b
  rw [firstD]
  cases e : (lf c m 4 0 [] ds 0).1 with
  | some p => exact (a p e).symm
  | none =>
    obtain ⟨_, _, f', _, h⟩ := b e
    rw [h]
    cases f' with
    | zero => rw [ffD]
    | succ g => rw [ffD]
/-! ### the law's tests of kinds -/
abbrev s_law_is_integer : Stmt := topS 49
theorem sc_law_is_integer : FnScope ["thing"] ["thing"] (defScope s_law_is_integer) := ⟨rfl, rfl, rfl, by decide +kernel, rfl, by decide +kernel, by decide +kernel⟩
abbrev s_law_is_row : Stmt := topS 50
theorem sc_law_is_row : FnScope ["thing", "cells", "one"] ["thing", "cells"] (defScope s_law_is_row) := ⟨rfl, rfl, rfl, by decide +kernel, rfl, by decide +kernel, by decide +kernel⟩
abbrev s_law_is_index : Stmt := topS 51
theorem sc_law_is_index : FnScope ["thing", "many"] ["thing", "many"] (defScope s_law_is_index) := ⟨rfl, rfl, rfl, by decide +kernel, rfl, by decide +kernel, by decide +kernel⟩
abbrev s_law_are_kept : Stmt := topS 52
theorem sc_law_are_kept : FnScope ["thing", "cells", "last", "cell"] ["thing", "cells"] (defScope s_law_are_kept) := ⟨rfl, rfl, rfl, by decide +kernel, rfl, by decide +kernel, by decide +kernel⟩
abbrev s_law_is_statement : Stmt := topS 53
theorem sc_law_is_statement : FnScope ["thing", "cells", "many", "level", "word", "blocks"] ["thing", "cells", "many", "level"] (defScope s_law_is_statement) := ⟨rfl, rfl, rfl, by decide +kernel, rfl, by decide +kernel, by decide +kernel⟩
section
variable {P : Program} {w : World} {K : PySem.W.Frag} {mg : Str → Option Value} {base : Heap} {σ : L2.St} {H : Hp}
theorem ok_lis_integer {f : Addr} {fd : FuncData} {k : Nat} (F : Fun K "_law_is_integer" "_law_is_integer" s_law_is_integer f fd) (z_isinstance : mg "isinstance" = none) (z_int : mg "int" = none) (z_bool : mg "bool" = none) : FnOk P w K mg base CX0 (k + 1) f fd ["thing"] (spInt K) := by
  have sc := sc_law_is_integer
  refine F.ok sc (fun vs H Q E h => ?_) (fun cdv A outer s H vs Q E hr h => ?_)
  · obtain ⟨v, d, rfl, _⟩ := h
    rfl
  · obtain ⟨v, d, rfl, hd, q⟩ := h
    refine ⟨_, (pss_one (ps_ret (pe_and (pe_callB call_isi (by rfl) z_isinstance (by decide +kernel) (pa_cons (pv 0) (pa_cons (pe_bltn (v := .ty "int") (by rfl) z_int (by decide +kernel) rfl) pa_nil))) (pe_one (pe_not (pe_callB call_isi (by rfl) z_isinstance (by decide +kernel) (pa_cons (pv 0) (pa_cons (pe_bltn (v := .ty "bool") (by rfl) z_bool (by decide +kernel) rfl) pa_nil)))))))), ?_⟩
    have kd := kitB_isa d
    refine s_ret (ev_andV (ev_isi hd (ev_var rfl) kd.2.1) fun _ => ev_notV (ev_isi hd (ev_var rfl) kd.1)) fun H1 e1 => ?_
    have z : (isa d "int" && !isa d "bool") = isIntD d := by
      rw [isa_int, isa_bool]
      cases d <;> rfl
    rw [z]
    exact q H1 e1
theorem ok_lis_index {f : Addr} {fd : FuncData} {k : Nat} (F : Fun K "_law_is_index" "_law_is_index" s_law_is_index f fd) (C_law_is_integer : Cal P w K mg base 1 "_law_is_integer" (spInt K) []) (hk : 1 ≤ k) : FnOk P w K mg base CX0 (k + 1) f fd ["thing", "many"] (spIx K) := by
  have sc := sc_law_is_index
  refine F.ok sc (fun vs H Q E h => ?_) (fun cdv A outer s H vs Q E hr h => ?_)
  · obtain ⟨v, d, n, rfl, _⟩ := h
    rfl
  · obtain ⟨v, d, n, rfl, hd, q⟩ := h
    refine ⟨_, (pss_one (ps_ret (pe_and (pe_c C_law_is_integer hr (by omega) (by rfl) (pa_cons (pv 0) pa_nil)) (pe_and (pe_cmpR op_le pe_int (pv 0) (nomark _)) (pe_one (pe_cmpR op_lt (pv 0) (pv 1) (nomark _))))))), ?_⟩
    cases hb : isIntD d with
    | false =>
      rw [btw_no 0 (n - 1) hb] at q
      exact s_ret (ev_andV (a := false) (b := false) (ev_is (ev_spInt (ev_var rfl) hd) (by rw [hb])) fun h => (nomatch h)) fun H1 e1 => q H1 e1
    | true =>
      obtain ⟨i, rfl, rfl⟩ := isInt_v hd hb
      refine s_ret (ev_andV (a := true) (b := decide ((0 : Int) ≤ i) && decide (i < n)) (ev_spInt (ev_var rfl) hd) fun _ => ev_andV (ev_op ev_c (ev_var rfl) rv_I0) fun _ => ev_op (ev_var rfl) (ev_var rfl) rv_I0) fun H1 e1 => ?_
      have z : (true && (decide ((0 : Int) ≤ i) && decide (i < n))) = btw 0 (n - 1) (.int i) := by
        rw [Bool.true_and, btw, show decide (i < n) = decide (i ≤ n - 1) from by rw [decide_eq_decide]; omega]
      rw [z]
      exact q H1 e1
theorem filt_none {α : Type} {p : α → Bool} : ∀ {l : List α}, (l.filter fun x => !p x).length = 0 ↔ l.all p = true
  | [] => by simp
  | x :: r => by
    rw [List.filter_cons, List.all_cons]
    cases h : p x with
    | true => simpa using filt_none (p := p) (l := r)
    | false => simp
theorem ev_lenFilt {tl : TE} {tt : TT} {a : Addr} {xs : List V} {ds : List PyData} {j : Nat} {vs : List Nat} {bad : PyData → Bool} (h : Ev tl σ H (.ref a)) (hs : SqL K H a xs) (hx : DpAll K H xs ds) (hl : ds.length ≤ 10000) (hw : ∀ x, wipe ((wipe σ vs).set j (some x)) vs = wipe σ vs) (hj : ∀ x : V, ((wipe σ vs).set j (some x))[j]? = some (some x))
    (hc : ∀ v d H1, Ex H H1 → Dp K H1 v d → EvT tt ((wipe σ vs).set j (some v)) H1 (bad d)) : Ev (tCB (rLenS K) (tCons (tLc (iList K tl) (gName j) tt (tVar j) vs) tNil)) σ H (.int ((ds.filter bad).length : Int)) := fun H0 e0 Q q =>
  h H0 e0 _ fun H1 e1 => ⟨a, rfl, ⟨xs, ex_l (e0.trans e1) hs⟩, fun D hD =>
    lc_list (xs := xs) (fun i H' => ∃ ys, Ex H1 H' ∧ H' D = some (.lst ys) ∧ ys.length = ((ds.take i).filter bad).length) ⟨[], Ex.new hD, upd_same, rfl⟩ (fun i H' _ p => by
        obtain ⟨ys, e, _⟩ := p
        exact ex_l ((e0.trans e1).trans e) hs) (fun i x H' hi p => ⟨hw x, by
        obtain ⟨ys, e, hd, ly⟩ := p
        have e02 := (e0.trans e1).trans e
        obtain ⟨d, hdi, hp⟩ := dpa_at2 hx hi
        have hi2 : i < ds.length := (List.getElem?_eq_some_iff.mp hdi).1
        have hlen : ((ds.take i).filter bad).length ≤ 10000 := Nat.le_trans (List.length_filter_le _ _) (by rw [List.length_take]; omega)
        have htk : ds.take (i + 1) = ds.take i ++ [d] := by rw [List.take_add_one, hdi]; rfl
        refine hc x d H' e02 (dp_ex e02 _ _ hp) H' (Ex.refl _) _ fun H2 e2 => ?_
        rw [htk, List.filter_append, List.length_append]
        cases hb : bad d with
        | true =>
          rw [if_pos rfl]
          refine ⟨x, hj x, ys, e2 _ _ hd, sz_lt (by omega), ys ++ [x], (e.trans e2).mut hD, upd_same, ?_⟩
          rw [List.length_append, ly, List.filter_cons, hb]; rfl
        | false =>
          rw [if_neg (by decide)]
          refine ⟨ys, e.trans e2, e2 _ _ hd, ?_⟩
          rw [ly, List.filter_cons, hb]; rfl⟩)
      (fun H' p => by
        obtain ⟨ys, e, hd, ly⟩ := p
        rw [dpa_len hx, List.take_length] at ly
        rw [← ly] at q
        exact ⟨D, ys, rfl, .inl (sq_of hd), q H' (e1.trans e)⟩)⟩
theorem ok_lis_row {f : Addr} {fd : FuncData} {k : Nat} (F : Fun K "_law_is_row" "_law_is_row" s_law_is_row f fd) (z_isinstance : mg "isinstance" = none) (z_list : mg "list" = none) (z_len : mg "len" = none) (C_law_is_integer : Cal P w K mg base 1 "_law_is_integer" (spInt K) []) (hk : 1 ≤ k) :
    FnOk P w K mg base CX0 (k + 1) f fd ["thing", "cells"] (spRw K) := by
  have sc := sc_law_is_row
  refine F.ok sc (fun vs H Q E h => ?_) (fun cdv A outer s H vs Q E hr h => ?_)
  · obtain ⟨v, d, c, n, rfl, _⟩ := h
    rfl
  · obtain ⟨v, d, c, n, rfl, hd, hf, q⟩ := h
    refine ⟨_, (pss_cons (ps_if (PW.pt (pw_or (pt_not (pt_val (pe_callB call_isi (by rfl) z_isinstance (by decide +kernel) (pa_cons (pv 0) (pa_cons (pe_bltn (v := .ty "list") (by rfl) z_list (by decide +kernel) rfl) pa_nil))))) (pw_or1 (pt_cmpR op_ne (pe_callB call_len_seq (by rfl) z_len (by decide +kernel) (pa_cons (pv 0) pa_nil)) (pe_op op_add (pv 1) pe_int) (nomark _)))))
      (pss_one (ps_ret pe_bl))
      pss_nil)
      (pss_one (ps_ret (pe_cmpR op_eq (pe_callB call_len_seq (by rfl) z_len (by decide +kernel) (pa_cons (pe_lc (own := [("one", 2)]) (by rfl) sc.nd (pi_list (pv 0)) (blkOk_by (own := [("one", 2)]) (N := ["thing", "cells", "one"]) (sc := defScope s_law_is_row) (by decide +kernel)) (fun _ _ _ _ _ => (pg_name (i := 2) sc.nd rfl (by first | exact Or.inl rfl | exact Or.inr rfl))) (fun _ _ _ _ _ => (pts_one (PW.pt (pw_or (pt_not (pt_val (pe_c C_law_is_integer hr (by omega) (by rfl) (pa_cons (pv 2) pa_nil)))) (pw_or (pt_cmpR op_lt (pv 2) (pe_un un_neg pe_int) (nomark _)) (pw_or1 (pt_cmpR op_gt (pv 2) pe_int (nomark _)))))))) (fun _ _ _ _ _ => (pv 2))) pa_nil)) pe_int (nomark _))))), ?_⟩
    have kd := kitB_isa d
    cases hb : isa d "list" with
    | false =>
      refine q_when (b := true) (et_or (a := true) (b := false) (et_is (et_not (et_B (ev_isi hd (ev_var rfl) kd.2.2.2.1))) (by rw [hb]; rfl)) fun h => (nomatch h)) (fun _ H1 e1 => ?_) (fun h => (nomatch h))
      rw [(rowD_list (c := c) hb).1] at q
      exact s_ret ev_c fun H2 e2 => q H2 (e1.trans e2)
    | true =>
      obtain ⟨a, xs, ds, rfl, rfl, hs, hx⟩ := isa_list_t hd hb
      obtain ⟨m, em, lx, gx⟩ := fit_list hf
      have lxs := dpa_len hx
      refine q_when (et_or (a := false) (et_is (et_not (et_B (ev_isi hd (ev_var rfl) kd.2.2.2.1))) (by rw [hb]; rfl)) fun _ => et_test (ev_op (ev_lenS (ev_var rfl) (.inl hs)) (ev_op (ev_var rfl) ev_c rv_I0) (rv_ne rfl))) (fun hl H1 e1 => ?_) (fun hl H1 e1 => ?_)
      · refine s_ret ev_c fun H2 e2 => ?_
        have z : false = rowD c (.list ds) := by
          have : ds.length ≠ c + 2 := fun e => by
            rw [lxs, e, Int.natCast_add] at hl
            simp at hl
          rw [rowD, decide_eq_false this]; rfl
        rw [z]
        exact q H2 (e1.trans e2)
      · have h2 : ds.length = c + 2 := by
          have h2 : V.int (xs.length : Int) = V.int ((c : Int) + 2) := of_decide_eq_true (by simpa using hl)
          have := V.int.inj h2
          omega
        have e0 := e1
        refine s_ret (ev_op (ev_lenFilt (bad := fun d => !btw (-9) 9 d) (ev_var rfl) (ex_l e1 hs) (dpa_ex e1 _ _ hx) lx (fun _ => rfl) (fun _ => rfl) fun v d H2 e2 hv => ?_) ev_c (rv_eq rfl)) fun H2 e2 => ?_
        · cases hi : isIntD d with
          | false => exact et_is (et_or (a := true) (b := false) (et_is (et_not (et_B (ev_spInt (ev_var rfl) hv))) (by rw [hi]; rfl)) fun h => (nomatch h)) (by rw [btw_no _ _ hi]; rfl)
          | true =>
            obtain ⟨i, rfl, rfl⟩ := isInt_v hv hi
            refine et_is (et_or (a := false) (et_is (et_not (et_B (ev_spInt (ev_var rfl) hv))) (by rw [hi]; rfl)) fun _ => et_or (et_test (ev_op (ev_var rfl) (ev_un ev_c ru_neg) rv_I0)) fun _ => et_test (ev_op (ev_var rfl) ev_c rv_I0)) ?_
            rw [btw, Bool.false_or, Bool.not_and]
            congr 1
            · rw [← decide_not, decide_eq_decide]; omega
            · rw [← decide_not, decide_eq_decide]; omega
        · have z : decide (V.int ((ds.filter fun d => !btw (-9) 9 d).length : Int) = V.int 0) = rowD c (.list ds) := by
            rw [rowD, decide_eq_true h2, Bool.true_and]
            cases ha : ds.all (btw (-9) 9) with
            | true => rw [filt_none.mpr ha]; rfl
            | false =>
              rw [decide_eq_false]
              intro y
              have y := V.int.inj y
              have : ds.all (btw (-9) 9) = true := filt_none.mp (by omega)
              rw [ha] at this; cases this
          rw [z]
          exact q H2 (e1.trans e2)
/-! cells kept -/
def upF (c : Nat) : Int → List PyData → Bool
  | _, [] => true
  | l, .int i :: r => btw 0 ((c : Int) - 1) (.int i) && (decide (l < i) && upF c i r)
  | _, _ :: _ => false
def hdL (l : Int) : List PyData → Bool
  | .int i :: _ => decide (l < i)
  | _ => true
theorem upF_eq (c : Nat) : ∀ (ds : List PyData) (l : Int), upF c l ds = (ds.all (btw 0 ((c : Int) - 1)) && (hdL l ds && up ds))
  | [], l => rfl
  | d :: r, l => by
    cases d with
    | int i =>
      rw [upF, upF_eq c r i, List.all_cons, hdL]
      cases r with
      | nil =>
        rw [show up [PyData.int i] = true from rfl, show hdL i [] = true from rfl, show up [] = true from rfl]
        cases btw 0 ((c : Int) - 1) (.int i) <;> cases decide (l < i) <;> rfl
      | cons e r =>
        cases e with
        | int j =>
          rw [hdL, up]
          cases btw 0 ((c : Int) - 1) (.int i) <;> cases decide (l < i) <;> cases (PyData.int j :: r).all (btw 0 ((c : Int) - 1)) <;> cases decide (i < j) <;> cases up (.int j :: r) <;> rfl
        | _ => rw [List.all_cons]; simp [btw]
    | _ => rw [List.all_cons]; simp [btw, upF]
theorem kept_eq (c : Nat) (ds : List PyData) : upF c (-1) ds = cellsD c (.list ds) := by
  rw [upF_eq, cellsD]
  cases ds with
  | nil => rfl
  | cons d r =>
    cases d with
    | int i =>
      rw [hdL, List.all_cons]
      by_cases h : -1 < i
      · rw [decide_eq_true h, Bool.true_and]
      · rw [decide_eq_false h, Bool.false_and, Bool.and_false, btw, decide_eq_false (show ¬ (0 : Int) ≤ i by omega)]; rfl
    | _ => rw [List.all_cons]; simp [btw]
theorem cellsD_no {c : Nat} {d : PyData} (h : isa d "list" = false) : cellsD c d = false := by
  rw [isa_list] at h
  cases d <;> first | rfl | cases h
theorem ok_lare_kept {f : Addr} {fd : FuncData} {k : Nat} (F : Fun K "_law_are_kept" "_law_are_kept" s_law_are_kept f fd) (z_isinstance : mg "isinstance" = none) (z_list : mg "list" = none) (C_law_is_index : Cal P w K mg base 2 "_law_is_index" (spIx K) []) (hk : 2 ≤ k) :
    FnOk P w K mg base CX0 (k + 1) f fd ["thing", "cells"] (spCl K) := by
  have sc := sc_law_are_kept
  refine F.ok sc (fun vs H Q E h => ?_) (fun cdv A outer s H vs Q E hr h => ?_)
  · obtain ⟨v, d, c, n, rfl, _⟩ := h
    rfl
  · obtain ⟨v, d, c, n, rfl, hd, hf, q⟩ := h
    refine ⟨_, (pss_cons (ps_if (pt_not (pt_val (pe_callB call_isi (by rfl) z_isinstance (by decide +kernel) (pa_cons (pv 0) (pa_cons (pe_bltn (v := .ty "list") (by rfl) z_list (by decide +kernel) rfl) pa_nil)))))
      (pss_one (ps_ret pe_bl))
      pss_nil)
      (pss_cons (ps_set (i := 2) sc.nd rfl (by first | exact Or.inl rfl | exact Or.inr rfl) (pe_un un_neg pe_int))
      (pss_cons (ps_for PassesOwn.never rfl (pi_list (pv 0)) (pg_name (i := 3) sc.nd rfl (by first | exact Or.inl rfl | exact Or.inr rfl))
      (pss_cons (ps_if (PW.pt (pw_or (pt_not (pt_val (pe_c C_law_is_index hr (by omega) (by rfl) (pa_cons (pv 3) (pa_cons (pv 1) pa_nil))))) (pw_or1 (pt_cmpR op_le (pv 3) (pv 2) (nomark _)))))
      (pss_one (ps_ret pe_bl))
      pss_nil)
      (pss_one (ps_set (i := 2) sc.nd rfl (by first | exact Or.inl rfl | exact Or.inr rfl) (pv 3)))))
      (pss_one (ps_ret pe_bl))))), ?_⟩
    have kd := kitB_isa d
    refine q_when (et_not (et_B (ev_isi hd (ev_var rfl) kd.2.2.2.1))) (fun hb H1 e1 => ?_) (fun hb H1 e1 => ?_)
    · rw [Bool.not_eq_true'] at hb
      rw [cellsD_no hb] at q
      exact s_ret ev_c fun H2 e2 => q H2 (e1.trans e2)
    · rw [Bool.not_eq_false'] at hb
      obtain ⟨a, xs, ds, rfl, rfl, hs, hx⟩ := isa_list_t hd hb
      have lxs := dpa_len hx
      rw [← kept_eq] at q
      refine q_asg (ev_un ev_c ru_neg) fun H2 e2 => ?_
      have e12 := e1.trans e2
      refine ⟨.ref a, rfl, a, rfl, ⟨xs, ex_l e12 hs⟩, ?_⟩
      refine for_it walk_list (fun i σ' H' => ∃ (l : Int) (x3 : Option V), σ' = [some (.ref a), some (.int (c : Int)), some (.int l), x3] ∧ Ex H H' ∧ upF c (-1) ds = upF c l (ds.drop i)) ⟨-1, none, rfl, e12, by rw [List.drop_zero]⟩ (fun i σ' H' _ ⟨_, _, _, e, _⟩ => ex_l e hs) (fun i x σ' Hx H3 hi hP y => ?_) (fun σ' H3 hP => ?_)
      · obtain ⟨l, x3, rfl, e, hu⟩ := hP
        obtain ⟨rfl, hxi⟩ := y
        obtain ⟨d, hdi, hp⟩ := dpa_at2 hx hxi
        have hi2 : i < ds.length := (List.getElem?_eq_some_iff.mp hdi).1
        have hdr : ds.drop i = d :: ds.drop (i + 1) := by
          rw [List.drop_eq_getElem_cons hi2]
          rw [List.getElem?_eq_getElem hi2] at hdi
          rw [Option.some.inj hdi]
        rw [hdr] at hu
        have hp2 := dp_ex e _ _ hp
        cases hb2 : btw 0 ((c : Int) - 1) d with
        | false =>
          have hz : upF c l (d :: ds.drop (i + 1)) = false := by
            cases d <;> first | rfl | (rw [upF, hb2]; rfl)
          rw [hu, hz] at q
          refine q_when (b := true) (et_or (a := true) (b := false) (et_is (et_not (et_B (ev_spIx (ev_var rfl) (ev_var rfl) hp2))) (by rw [hb2]; rfl)) fun h => (nomatch h)) (fun _ H4 e4 => ?_) fun h => (nomatch h)
          exact s_ret ev_c fun H5 e5 => q H5 ((e.trans e4).trans e5)
        | true =>
          obtain ⟨z, rfl, rfl⟩ := isInt_v hp2 (by cases d <;> first | rfl | cases hb2)
          rw [upF, hb2, Bool.true_and] at hu
          refine q_when (et_or (a := false) (et_is (et_not (et_B (ev_spIx (ev_var rfl) (ev_var rfl) hp2))) (by rw [hb2]; rfl)) fun _ => et_test (ev_op (ev_var rfl) (ev_var rfl) rv_I0)) (fun hc H4 e4 => ?_) (fun hc H4 e4 => ?_)
          · have : z ≤ l := of_decide_eq_true (by simpa using hc)
            rw [decide_eq_false (show ¬ l < z by omega), Bool.false_and] at hu
            rw [hu] at q
            exact s_ret ev_c fun H5 e5 => q H5 ((e.trans e4).trans e5)
          · have : ¬ z ≤ l := of_decide_eq_false (by simpa using hc)
            rw [decide_eq_true (show l < z by omega), Bool.true_and] at hu
            exact s_asg (ev_var rfl) fun H5 e5 => ⟨z, _, rfl, (e.trans e4).trans e5, hu⟩
      · obtain ⟨l, x3, rfl, e, hu⟩ := hP
        rw [lxs, List.drop_length, upF] at hu
        rw [hu] at q
        dsimp only
        exact s_ret ev_c fun H4 e4 => q H4 (e.trans e4)
end
/-! ### the law's test of a statement -/
section
variable {P : Program} {w : World} {K : PySem.W.Frag} {mg : Str → Option Value} {base : Heap} {σ : L2.St} {H : Hp}
def spLStm (K : PySem.W.Frag) : Sp := fun vs H Q _ => ∃ (v : V) (d : PyData) (c m lv n : Nat), vs = [v, .int (c : Int), .int (m : Int), .int (lv : Int)] ∧ Dp K H v d ∧ fit d n = true ∧ lv ≤ 3 ∧ ∀ H', Ex H H' → Q (.bl (!badS c m lv d)) H'
theorem stm_no {c m n : Nat} {x : Str} {r : List PyData} (h : szOf x = some n) (hl : r.length + 1 ≠ n) : stmD c m (.tuple (.str x :: r)) = false := stm_sized (by
  rw [sizedD, h]
  exact decide_eq_false fun z => hl (Option.some.inj z).symm)
theorem bad_no {c m lv : Nat} {d : PyData} (h : stmD c m d = false) : (!badS c m lv d) = false := by rw [badS, h]; rfl
theorem bad_flat {c m lv : Nat} {d : PyData} (h : blocksD d = []) : (!badS c m lv d) = stmD c m d := by rw [badS, h, Bool.not_not, List.isEmpty_nil, Bool.or_true, Bool.and_true]
theorem bad_low {c m lv : Nat} {d : PyData} (h : lv < 3) : (!badS c m lv d) = stmD c m d := by rw [badS, Bool.not_not, decide_eq_true h, Bool.true_or, Bool.and_true]
theorem bad_three {c m : Nat} {x : Str} {r : List PyData} (h1 : x ≠ "set") (h2 : x ≠ "carry") (h3 : x ≠ "end") : (!badS c m 3 (.tuple (.str x :: r))) = false := by
  cases e : stmD c m (.tuple (.str x :: r)) with
  | false => exact bad_no e
  | true =>
    rw [badS, Bool.not_not, e, Bool.true_and, decide_eq_false (by decide), Bool.false_or]
    rcases sized_cases (stm_yes e) with ⟨a, h⟩ | ⟨a, h⟩ | ⟨a, h⟩ | ⟨a, b, h⟩ | ⟨a, b, h⟩ | ⟨a, b, h⟩ | ⟨a, b, g, h⟩ <;> obtain ⟨i1, i2⟩ := List.cons.inj (PyData.tuple.inj h) <;> have i1 := PyData.str.inj i1
    · exact absurd i1 h2
    · rw [i1, i2]; rfl
    · exact absurd i1 h3
    · exact absurd i1 h1
    · rw [i1, i2]; rfl
    · rw [i1, i2]; rfl
    · have e2 := e
      rw [h] at e
      rw [i1, i2]
      have hp : pairD g = true := by
        have e : (btw 0 ((m : Int) - 1) a && (rowD c b && pairD g)) = true := e
        rw [Bool.and_eq_true, Bool.and_eq_true] at e
        exact e.2.2
      match g, hp with
      | .list [y, z], _ => rfl
theorem ok_lis_statement {f : Addr} {fd : FuncData} {k : Nat} (F : Fun K "_law_is_statement" "_law_is_statement" s_law_is_statement f fd) (z_isinstance : mg "isinstance" = none) (z_list : mg "list" = none) (z_tuple : mg "tuple" = none) (z_str : mg "str" = none) (z_len : mg "len" = none)
    (C_law_is_index : Cal P w K mg base 2 "_law_is_index" (spIx K) []) (C_law_is_row : Cal P w K mg base 2 "_law_is_row" (spRw K) []) (C_law_are_kept : Cal P w K mg base 3 "_law_are_kept" (spCl K) []) (hk : 3 ≤ k) :
    FnOk P w K mg base CX0 (k + 1) f fd ["thing", "cells", "many", "level"] (spLStm K) := by
  have sc := sc_law_is_statement
  refine F.ok sc (fun vs H Q E h => ?_) (fun cdv A outer s H vs Q E hr h => ?_)
  · obtain ⟨v, d, c, m, lv, n, rfl, _⟩ := h
    rfl
  · obtain ⟨v, d, c, m, lv, n, rfl, hd, hf, hlv, q⟩ := h
    refine ⟨_, (pss_cons (ps_if (PW.pt (pw_or (pt_not (pt_val (pe_callB call_isi (by rfl) z_isinstance (by decide +kernel) (pa_cons (pv 0) (pa_cons (pe_bltn (v := .ty "tuple") (by rfl) z_tuple (by decide +kernel) rfl) pa_nil))))) (pw_or (pt_cmpR op_lt (pe_callB call_len_seq (by rfl) z_len (by decide +kernel) (pa_cons (pv 0) pa_nil)) pe_int (nomark _)) (pw_or1 (pt_not (pt_val (pe_callB call_isi (by rfl) z_isinstance (by decide +kernel) (pa_cons (pe_ix ix_tup (pv 0) pe_int (fun _ _ => rfl)) (pa_cons (pe_bltn (v := .ty "str") (by rfl) z_str (by decide +kernel) rfl) pa_nil)))))))))
      (pss_one (ps_ret pe_bl))
      pss_nil)
      (pss_cons (ps_set (i := 4) sc.nd rfl (by first | exact Or.inl rfl | exact Or.inr rfl) (pe_ix ix_tup (pv 0) pe_int (fun _ _ => rfl)))
      (pss_cons (ps_if (pt_cmpR op_eq (pv 4) pe_str (nomark _))
      (pss_one (ps_ret (pe_and (pe_cmpR op_eq (pe_callB call_len_seq (by rfl) z_len (by decide +kernel) (pa_cons (pv 0) pa_nil)) pe_int (nomark _)) (pe_and (pe_c C_law_is_index hr (by omega) (by rfl) (pa_cons (pe_ix ix_tup (pv 0) pe_int (fun _ _ => rfl)) (pa_cons (pv 1) pa_nil))) (pe_one (pe_c C_law_is_row hr (by omega) (by rfl) (pa_cons (pe_ix ix_tup (pv 0) pe_int (fun _ _ => rfl)) (pa_cons (pv 1) pa_nil))))))))
      pss_nil)
      (pss_cons (ps_if (pt_cmpR op_eq (pv 4) pe_str (nomark _))
      (pss_one (ps_ret (pe_and (pe_cmpR op_eq (pe_callB call_len_seq (by rfl) z_len (by decide +kernel) (pa_cons (pv 0) pa_nil)) pe_int (nomark _)) (pe_one (pe_c C_law_is_row hr (by omega) (by rfl) (pa_cons (pe_ix ix_tup (pv 0) pe_int (fun _ _ => rfl)) (pa_cons (pv 1) pa_nil)))))))
      pss_nil)
      (pss_cons (ps_if (pt_cmpR op_eq (pv 4) pe_str (nomark _))
      (pss_one (ps_ret (pe_and (pe_cmpR op_eq (pe_callB call_len_seq (by rfl) z_len (by decide +kernel) (pa_cons (pv 0) pa_nil)) pe_int (nomark _)) (pe_one (pe_c C_law_is_index hr (by omega) (by rfl) (pa_cons (pe_ix ix_tup (pv 0) pe_int (fun _ _ => rfl)) (pa_cons pe_int pa_nil)))))))
      pss_nil)
      (pss_cons (ps_if (pt_cmpR op_eq (pv 3) pe_int (nomark _))
      (pss_one (ps_ret pe_bl))
      pss_nil)
      (pss_cons (ps_if (pt_cmpR op_eq (pv 4) pe_str (nomark _))
      (pss_one (ps_ret (pe_and (pe_cmpR op_eq (pe_callB call_len_seq (by rfl) z_len (by decide +kernel) (pa_cons (pv 0) pa_nil)) pe_int (nomark _)) (pe_one (pe_callB call_isi (by rfl) z_isinstance (by decide +kernel) (pa_cons (pe_ix ix_tup (pv 0) pe_int (fun _ _ => rfl)) (pa_cons (pe_bltn (v := .ty "list") (by rfl) z_list (by decide +kernel) rfl) pa_nil)))))))
      pss_nil)
      (pss_cons (ps_if (pt_cmpR op_eq (pv 4) pe_str (nomark _))
      (pss_one (ps_ret (pe_and (pe_cmpR op_eq (pe_callB call_len_seq (by rfl) z_len (by decide +kernel) (pa_cons (pv 0) pa_nil)) pe_int (nomark _)) (pe_and (pe_c C_law_are_kept hr (by omega) (by rfl) (pa_cons (pe_ix ix_tup (pv 0) pe_int (fun _ _ => rfl)) (pa_cons (pv 1) pa_nil))) (pe_one (pe_callB call_isi (by rfl) z_isinstance (by decide +kernel) (pa_cons (pe_ix ix_tup (pv 0) pe_int (fun _ _ => rfl)) (pa_cons (pe_bltn (v := .ty "list") (by rfl) z_list (by decide +kernel) rfl) pa_nil))))))))
      pss_nil)
      (pss_cons (ps_if (pt_cmpR op_eq (pv 4) pe_str (nomark _))
      (pss_one (ps_ret (pe_and (pe_cmpR op_eq (pe_callB call_len_seq (by rfl) z_len (by decide +kernel) (pa_cons (pv 0) pa_nil)) pe_int (nomark _)) (pe_and (pe_callB call_isi (by rfl) z_isinstance (by decide +kernel) (pa_cons (pe_ix ix_tup (pv 0) pe_int (fun _ _ => rfl)) (pa_cons (pe_bltn (v := .ty "list") (by rfl) z_list (by decide +kernel) rfl) pa_nil))) (pe_one (pe_callB call_isi (by rfl) z_isinstance (by decide +kernel) (pa_cons (pe_ix ix_tup (pv 0) pe_int (fun _ _ => rfl)) (pa_cons (pe_bltn (v := .ty "list") (by rfl) z_list (by decide +kernel) rfl) pa_nil))))))))
      pss_nil)
      (pss_cons (ps_if (PW.pt (pw_or (pt_cmpR op_ne (pv 4) pe_str (nomark _)) (pw_or (pt_cmpR op_ne (pe_callB call_len_seq (by rfl) z_len (by decide +kernel) (pa_cons (pv 0) pa_nil)) pe_int (nomark _)) (pw_or (pt_not (pt_val (pe_c C_law_is_index hr (by omega) (by rfl) (pa_cons (pe_ix ix_tup (pv 0) pe_int (fun _ _ => rfl)) (pa_cons (pv 2) pa_nil))))) (pw_or1 (pt_not (pt_val (pe_c C_law_is_row hr (by omega) (by rfl) (pa_cons (pe_ix ix_tup (pv 0) pe_int (fun _ _ => rfl)) (pa_cons (pv 1) pa_nil))))))))))
      (pss_one (ps_ret pe_bl))
      pss_nil)
      (pss_cons (ps_set (i := 5) sc.nd rfl (by first | exact Or.inl rfl | exact Or.inr rfl) (pe_ix ix_tup (pv 0) pe_int (fun _ _ => rfl)))
      (pss_cons (ps_if (PW.pt (pw_or (pt_not (pt_val (pe_callB call_isi (by rfl) z_isinstance (by decide +kernel) (pa_cons (pv 5) (pa_cons (pe_bltn (v := .ty "list") (by rfl) z_list (by decide +kernel) rfl) pa_nil))))) (pw_or1 (pt_cmpR op_ne (pe_callB call_len_seq (by rfl) z_len (by decide +kernel) (pa_cons (pv 5) pa_nil)) pe_int (nomark _)))))
      (pss_one (ps_ret pe_bl))
      pss_nil)
      (pss_one (ps_ret (pe_and (pe_callB call_isi (by rfl) z_isinstance (by decide +kernel) (pa_cons (pe_ix ix_list (pv 5) pe_int (fun _ _ => rfl)) (pa_cons (pe_bltn (v := .ty "list") (by rfl) z_list (by decide +kernel) rfl) pa_nil))) (pe_one (pe_callB call_isi (by rfl) z_isinstance (by decide +kernel) (pa_cons (pe_ix ix_list (pv 5) pe_int (fun _ _ => rfl)) (pa_cons (pe_bltn (v := .ty "list") (by rfl) z_list (by decide +kernel) rfl) pa_nil))))))))))))))))))), ?_⟩
    have kd := kitB_isa d
    -- the form
    cases ht : isa d "tuple" with
    | false =>
      have hs : stmD c m d = false := stm_sized (by rw [isa_tuple] at ht; cases d <;> first | rfl | cases ht)
      rw [bad_no hs] at q
      refine q_when (b := true) (et_or (a := true) (b := false) (et_is (et_not (et_B (ev_isi hd (ev_var rfl) kd.2.2.2.2))) (by rw [ht]; rfl)) fun h => (nomatch h)) (fun _ H1 e1 => ?_) fun h => (nomatch h)
      exact s_ret ev_c fun H2 e2 => q H2 (e1.trans e2)
    | true =>
      obtain ⟨t, xs, ds, rfl, rfl, st, hx⟩ := isa_tuple_t hd ht
      have lxs := dpa_len hx
      have fitm := fit_items hf
      obtain ⟨fm, fa⟩ := fitm
      have lenE : ∀ {σ : L2.St} {H' : Hp} (n : Nat), Ex H H' → σ[0]? = some (some (.ref t)) → Ev (tOp rEq (tCB (rLenS K) (tCons (tVar 0) tNil)) (tC (.int (n : Int)))) σ H' (.bl (decide (ds.length = n))) := fun n e h =>
        ev_is (ev_op (ev_lenS (ev_var h) (.inr (ex_t e st))) ev_c (rv_eq rfl)) (by
          rw [lxs]
          congr 1
          rw [decide_eq_decide]
          exact ⟨fun h => by have := V.int.inj h; omega, fun h => by rw [h]⟩)
      have lenL : Ev (tOp (rI0 fun i j => .bl (decide (i < j))) (tCB (rLenS K) (tCons (tVar 0) tNil)) (tC (.int 2))) [some (.ref t), some (.int (c : Int)), some (.int (m : Int)), some (.int (lv : Int)), none, none] H (.bl (decide (ds.length < 2))) :=
        ev_is (ev_op (ev_lenS (ev_var rfl) (.inr st)) ev_c rv_I0) (by
          rw [lxs]
          show V.bl (decide ((ds.length : Int) < 2)) = _
          congr 1
          rw [decide_eq_decide]; omega)
      rcases ds with _ | ⟨d0, _ | ⟨a, r⟩⟩
      · rw [bad_no (by rfl)] at q
        refine q_when (b := true) (et_or (a := false) (b := true) (et_is (et_not (et_B (ev_isi hd (ev_var rfl) kd.2.2.2.2))) (by rfl)) fun _ => et_or (a := true) (b := false) (et_test lenL) fun h => (nomatch h)) (fun _ H1 e1 => ?_) fun h => (nomatch h)
        exact s_ret ev_c fun H2 e2 => q H2 (e1.trans e2)
      · rw [bad_no (by cases d0 <;> rfl)] at q
        refine q_when (b := true) (et_or (a := false) (b := true) (et_is (et_not (et_B (ev_isi hd (ev_var rfl) kd.2.2.2.2))) (by rfl)) fun _ => et_or (a := true) (b := false) (et_test lenL) fun h => (nomatch h)) (fun _ H1 e1 => ?_) fun h => (nomatch h)
        exact s_ret ev_c fun H2 e2 => q H2 (e1.trans e2)
      · obtain ⟨v0, vr, rfl, p0, hx1⟩ := dpa1 hx
        obtain ⟨va, vr, rfl, pa, hr1⟩ := dpa1 hx1
        have kd0 := kitB_isa d0
        have h2 : decide ((d0 :: a :: r).length < 2) = false := by rw [decide_eq_false_iff_not, List.length_cons, List.length_cons]; omega
        cases hs : isa d0 "str" with
        | false =>
          have hno : stmD c m (.tuple (d0 :: a :: r)) = false := stm_sized (by rw [isa_str] at hs; cases d0 <;> first | rfl | cases hs)
          rw [bad_no hno] at q
          refine q_when (b := true) (et_or (a := false) (b := true) (et_is (et_not (et_B (ev_isi hd (ev_var rfl) kd.2.2.2.2))) (by rfl)) fun _ => et_or (a := false) (b := true) (et_is (et_test lenL) h2) fun _ => et_is (et_not (et_B (ev_isi p0 (ev_at (j := 0) (ev_var rfl) st rfl) kd0.2.2.1))) (by rw [hs]; rfl)) (fun _ H1 e1 => ?_) fun h => (nomatch h)
          exact s_ret ev_c fun H2 e2 => q H2 (e1.trans e2)
        | true =>
          obtain ⟨x, rfl⟩ : ∃ x, d0 = .str x := by rw [isa_str] at hs; cases d0 <;> first | exact ⟨_, rfl⟩ | cases hs
          obtain rfl := dp_str p0
          refine q_when (b := false) (et_or (a := false) (b := false) (et_is (et_not (et_B (ev_isi hd (ev_var rfl) kd.2.2.2.2))) (by rfl)) fun _ => et_or (a := false) (b := false) (et_is (et_test lenL) h2) fun _ => et_is (et_not (et_B (ev_isi p0 (ev_at (j := 0) (ev_var rfl) st rfl) kd0.2.2.1))) (by rw [hs]; rfl)) (fun h => (nomatch h)) fun _ H1 e1 => ?_
          refine q_asg (ev_at (j := 0) (ev_var rfl) (ex_t e1 st) rfl) fun H2 e2 => ?_
          have e12 := e1.trans e2
          have ne : ∀ {y : Str}, x ≠ y → decide (V.str x = V.str y) = false := fun h => decide_eq_false fun z => h (V.str.inj z)
          have one : ∀ {k : Nat}, ((PyData.str x :: a :: r).length = k + 3) → ∃ b r2, r = b :: r2 ∧ r2.length = k := fun {k} h => by
            cases r with
            | nil => simp at h
            | cons b r2 => exact ⟨b, r2, rfl, by simpa using h⟩
          by_cases hw : x = Str.ofString "set"
          · subst hw
            refine q_word1 rfl fun H3 e3 => ?_
            have e := e12.trans e3
            by_cases hl : (PyData.str (Str.ofString "set") :: a :: r).length = 3
            · obtain ⟨b, r2, rfl, l2⟩ := one (k := 0) hl
              obtain rfl : r2 = [] := by cases r2 <;> first | rfl | simp at l2
              obtain ⟨vb, vr2, rfl, pb, _⟩ := dpa1 hr1
              rw [bad_flat (by rfl)] at q
              exact s_ret (ev_andV (lenE 3 e rfl) fun _ => ev_andV (ev_spIx (ev_at (j := 1) (ev_var rfl) (ex_t e st) rfl) (ev_var rfl) (dp_ex e _ _ pa)) fun _ => ev_spRw (ev_at (j := 2) (ev_var rfl) (ex_t e st) rfl) (ev_var rfl) (dp_ex e _ _ pb) (fa b (by simp))) fun H9 e9 => q H9 (e.trans e9)
            · rw [bad_no (stm_no (n := 3) (by decide) (by simpa using hl))] at q
              exact s_ret (ev_andV (a := false) (b := false) (ev_is (lenE 3 e rfl) (by rw [decide_eq_false hl])) fun h => (nomatch h)) fun H9 e9 => q H9 (e.trans e9)
          have hw1 := hw
          refine q_word rfl (ne hw) fun H3 e3 => ?_
          have e3' := e12.trans e3
          clear hw
          by_cases hw : x = Str.ofString "carry"
          · subst hw
            refine q_word1 rfl fun H4 e4 => ?_
            have e := e3'.trans e4
            by_cases hl : (PyData.str (Str.ofString "carry") :: a :: r).length = 2
            · obtain rfl : r = [] := by cases r <;> first | rfl | simp at hl
              rw [bad_flat (by rfl)] at q
              exact s_ret (ev_andV (lenE 2 e rfl) fun _ => ev_spRw (ev_at (j := 1) (ev_var rfl) (ex_t e st) rfl) (ev_var rfl) (dp_ex e _ _ pa) (fa a (by simp))) fun H9 e9 => q H9 (e.trans e9)
            · rw [bad_no (stm_no (n := 2) (by decide) (by simpa using hl))] at q
              exact s_ret (ev_andV (a := false) (b := false) (ev_is (lenE 2 e rfl) (by rw [decide_eq_false hl])) fun h => (nomatch h)) fun H9 e9 => q H9 (e.trans e9)
          have hw2 := hw
          refine q_word rfl (ne hw) fun H4 e4 => ?_
          have e4' := e3'.trans e4
          clear hw
          by_cases hw : x = Str.ofString "end"
          · subst hw
            refine q_word1 rfl fun H5 e5 => ?_
            have e := e4'.trans e5
            by_cases hl : (PyData.str (Str.ofString "end") :: a :: r).length = 2
            · obtain rfl : r = [] := by cases r <;> first | rfl | simp at hl
              rw [bad_flat (by rfl)] at q
              exact s_ret (ev_andV (lenE 2 e rfl) fun _ => ev_spIx (ev_at (j := 1) (ev_var rfl) (ex_t e st) rfl) ev_c (dp_ex e _ _ pa)) fun H9 e9 => q H9 (e.trans e9)
            · rw [bad_no (stm_no (n := 2) (by decide) (by simpa using hl))] at q
              exact s_ret (ev_andV (a := false) (b := false) (ev_is (lenE 2 e rfl) (by rw [decide_eq_false hl])) fun h => (nomatch h)) fun H9 e9 => q H9 (e.trans e9)
          have hw3 := hw
          refine q_word rfl (ne hw) fun H5 e5 => ?_
          have e5' := e4'.trans e5
          clear hw
          by_cases h3' : lv = 3
          · subst h3'
            rw [bad_three hw1 hw2 hw3] at q
            refine q_when (b := true) (et_test (ev_op (ev_var rfl) ev_c (rv_eq rfl))) (fun _ H6 e6 => ?_) fun h => (nomatch h)
            exact s_ret ev_c fun H9 e9 => q H9 ((e5'.trans e6).trans e9)
          have h3 : lv < 3 := by omega
          refine q_when (b := false) (et_is (et_test (ev_op (ev_var rfl) ev_c (rv_eq rfl))) (decide_eq_false fun z => by have := V.int.inj z; omega)) (fun h => (nomatch h)) fun _ H6 e6 => ?_
          have e6' := e5'.trans e6
          by_cases hw : x = Str.ofString "again"
          · subst hw
            refine q_word1 rfl fun H7 e7 => ?_
            have e := e6'.trans e7
            by_cases hl : (PyData.str (Str.ofString "again") :: a :: r).length = 2
            · obtain rfl : r = [] := by cases r <;> first | rfl | simp at hl
              rw [bad_low h3] at q
              exact s_ret (ev_andV (b := listD a) (lenE 2 e rfl) fun _ => ev_is (ev_isi (dp_ex e _ _ pa) (ev_at (j := 1) (ev_var rfl) (ex_t e st) rfl) (kitB_isa a).2.2.2.1) (by rw [← listD_isa])) fun H9 e9 => q H9 (e.trans e9)
            · rw [bad_no (stm_no (n := 2) (by decide) (by simpa using hl))] at q
              exact s_ret (ev_andV (a := false) (b := false) (ev_is (lenE 2 e rfl) (by rw [decide_eq_false hl])) fun h => (nomatch h)) fun H9 e9 => q H9 (e.trans e9)
          have hw4 := hw
          refine q_word rfl (ne hw) fun H7 e7 => ?_
          have e7' := e6'.trans e7
          clear hw
          by_cases hw : x = Str.ofString "keep"
          · subst hw
            refine q_word1 rfl fun H8 e8 => ?_
            have e := e7'.trans e8
            by_cases hl : (PyData.str (Str.ofString "keep") :: a :: r).length = 3
            · obtain ⟨b, r2, rfl, l2⟩ := one (k := 0) hl
              obtain rfl : r2 = [] := by cases r2 <;> first | rfl | simp at l2
              obtain ⟨vb, vr2, rfl, pb, _⟩ := dpa1 hr1
              rw [bad_low h3] at q
              exact s_ret (ev_andV (lenE 3 e rfl) fun _ => ev_andV (ev_spCl (ev_at (j := 1) (ev_var rfl) (ex_t e st) rfl) (ev_var rfl) (dp_ex e _ _ pa) (fa a (by simp))) fun _ => ev_is (ev_isi (dp_ex e _ _ pb) (ev_at (j := 2) (ev_var rfl) (ex_t e st) rfl) (kitB_isa b).2.2.2.1) (by rw [← listD_isa])) fun H9 e9 => q H9 (e.trans e9)
            · rw [bad_no (stm_no (n := 3) (by decide) (by simpa using hl))] at q
              exact s_ret (ev_andV (a := false) (b := false) (ev_is (lenE 3 e rfl) (by rw [decide_eq_false hl])) fun h => (nomatch h)) fun H9 e9 => q H9 (e.trans e9)
          have hw5 := hw
          refine q_word rfl (ne hw) fun H8 e8 => ?_
          have e8' := e7'.trans e8
          clear hw
          by_cases hw : x = Str.ofString "either"
          · subst hw
            refine q_word1 rfl fun H9 e9 => ?_
            have e := e8'.trans e9
            by_cases hl : (PyData.str (Str.ofString "either") :: a :: r).length = 3
            · obtain ⟨b, r2, rfl, l2⟩ := one (k := 0) hl
              obtain rfl : r2 = [] := by cases r2 <;> first | rfl | simp at l2
              obtain ⟨vb, vr2, rfl, pb, _⟩ := dpa1 hr1
              rw [bad_low h3] at q
              exact s_ret (ev_andV (lenE 3 e rfl) fun _ => ev_andV (ev_is (ev_isi (dp_ex e _ _ pa) (ev_at (j := 1) (ev_var rfl) (ex_t e st) rfl) (kitB_isa a).2.2.2.1) (by rw [← listD_isa])) fun _ => ev_is (ev_isi (dp_ex e _ _ pb) (ev_at (j := 2) (ev_var rfl) (ex_t e st) rfl) (kitB_isa b).2.2.2.1) (by rw [← listD_isa])) fun H9 e9 => q H9 (e.trans e9)
            · rw [bad_no (stm_no (n := 3) (by decide) (by simpa using hl))] at q
              exact s_ret (ev_andV (a := false) (b := false) (ev_is (lenE 3 e rfl) (by rw [decide_eq_false hl])) fun h => (nomatch h)) fun H9 e9 => q H9 (e.trans e9)
          have hw6 := hw
          refine q_word rfl (ne hw) fun H9 e9 => ?_
          have e9' := e8'.trans e9
          clear hw
          have e := e9'
          have lenN : ∀ {σ : L2.St} {H' : Hp}, Ex H H' → σ[0]? = some (some (.ref t)) → Ev (tOp rNe (tCB (rLenS K) (tCons (tVar 0) tNil)) (tC (.int 4))) σ H' (.bl (!decide ((PyData.str x :: a :: r).length = 4))) := fun e h =>
            ev_is (ev_op (ev_lenS (ev_var h) (.inr (ex_t e st))) ev_c (rv_ne rfl)) (by
              rw [lxs]
              congr 2
              rw [decide_eq_decide]
              exact ⟨fun h => by have := V.int.inj h; omega, fun h => by rw [h]; rfl⟩)
          by_cases hw : x = Str.ofString "call"
          · subst hw
            have tne : (!decide (V.str (Str.ofString "call") = V.str (Str.ofString "call"))) = false := by rw [decide_eq_true rfl]; rfl
            by_cases hl : (PyData.str (Str.ofString "call") :: a :: r).length = 4
            · obtain ⟨b, r2, rfl, l2⟩ := one (k := 1) hl
              obtain ⟨g, rfl⟩ : ∃ g, r2 = [g] := by
                match r2, l2 with
                | [g], _ => exact ⟨g, rfl⟩
              obtain ⟨vb, vr2, rfl, pb, hr2⟩ := dpa1 hr1
              obtain ⟨vg, vr3, rfl, pg, _⟩ := dpa1 hr2
              have hS : stmD c m (.tuple [.str (Str.ofString "call"), a, b, g]) = (btw 0 ((m : Int) - 1) a && (rowD c b && pairD g)) := rfl
              rw [bad_low h3, hS] at q
              refine q_when (b := !btw 0 ((m : Int) - 1) a || !rowD c b) (et_or (a := false) (et_is (et_test (ev_op (ev_var rfl) ev_c (rv_ne rfl))) tne) fun _ => et_or (a := false) (et_is (et_test (lenN e rfl)) (by rw [decide_eq_true hl]; rfl)) fun _ => et_or (et_not (et_B (ev_spIx (ev_at (j := 1) (ev_var rfl) (ex_t e st) rfl) (ev_var rfl) (dp_ex e _ _ pa)))) fun _ => et_not (et_B (ev_spRw (ev_at (j := 2) (ev_var rfl) (ex_t e st) rfl) (ev_var rfl) (dp_ex e _ _ pb) (fa b (by simp))))) (fun hc H10 e10 => ?_) (fun hc H10 e10 => ?_)
              · have z : (btw 0 ((m : Int) - 1) a && (rowD c b && pairD g)) = false := by
                  cases h1 : btw 0 ((m : Int) - 1) a <;> cases h2 : rowD c b <;> first | rfl | (rw [h1, h2] at hc; cases hc)
                rw [z] at q
                exact s_ret ev_c fun H11 e11 => q H11 ((e.trans e10).trans e11)
              · obtain ⟨h1, h2'⟩ := Bool.or_eq_false_iff.mp hc
                rw [Bool.not_eq_false'] at h1 h2'
                rw [h1, h2', Bool.true_and, Bool.true_and] at q
                refine q_asg (ev_at (j := 3) (ev_var rfl) (ex_t (e.trans e10) st) rfl) fun H11 e11 => ?_
                have e011 := (e.trans e10).trans e11
                have pg1 := dp_ex e011 _ _ pg
                cases hg : isa g "list" with
                | false =>
                  have z : pairD g = false := by rw [isa_list] at hg; cases g <;> first | rfl | cases hg
                  rw [z] at q
                  refine q_when (b := true) (et_or (a := true) (b := false) (et_is (et_not (et_B (ev_isi pg1 (ev_var rfl) (kitB_isa g).2.2.2.1))) (by rw [hg]; rfl)) fun h => (nomatch h)) (fun _ H12 e12 => ?_) fun h => (nomatch h)
                  exact s_ret ev_c fun H13 e13 => q H13 ((e011.trans e12).trans e13)
                | true =>
                  obtain ⟨ga, gx, gs, rfl, rfl, hgs, hgx⟩ := isa_list_t pg1 hg
                  have lgx := dpa_len hgx
                  have lenG : ∀ {σ : L2.St}, σ[5]? = some (some (.ref ga)) → Ev (tOp rNe (tCB (rLenS K) (tCons (tVar 5) tNil)) (tC (.int 2))) σ H11 (.bl (!decide (gs.length = 2))) := fun h => ev_is (ev_op (ev_lenS (ev_var h) (.inl hgs)) ev_c (rv_ne rfl)) (by
                    rw [lgx]
                    congr 2
                    rw [decide_eq_decide]
                    exact ⟨fun h => by have := V.int.inj h; omega, fun h => by rw [h]; rfl⟩)
                  refine q_when (et_or (a := false) (et_is (et_not (et_B (ev_isi pg1 (ev_var rfl) (kitB_isa (.list gs)).2.2.2.1))) (by rw [hg]; rfl)) fun _ => et_test (lenG rfl)) (fun hd2 H12 e12 => ?_) (fun hd2 H12 e12 => ?_)
                  · have z : pairD (.list gs) = false := by
                      have n2 : gs.length ≠ 2 := of_decide_eq_false (by simpa using hd2)
                      match gs, n2 with
                      | [], _ => rfl
                      | [_], _ => rfl
                      | [_, _], n2 => exact absurd rfl n2
                      | _ :: _ :: _ :: _, _ => rfl
                    rw [z] at q
                    exact s_ret ev_c fun H13 e13 => q H13 ((e011.trans e12).trans e13)
                  · have n2 : gs.length = 2 := by
                      have : decide (gs.length = 2) = true := by simpa using hd2
                      exact of_decide_eq_true this
                    obtain ⟨y, z, rfl⟩ : ∃ y z, gs = [y, z] := by
                      match gs, n2 with
                      | [y, z], _ => exact ⟨y, z, rfl⟩
                    obtain ⟨vy, yr, rfl, py, hyr⟩ := dpa1 hgx
                    obtain ⟨vz, zr, rfl, pz, _⟩ := dpa1 hyr
                    refine s_ret (ev_andV (a := listD y) (b := listD z) (ev_is (ev_isi (dp_ex e12 _ _ py) (ev_op (ev_var rfl) ev_c (rv_ixL (i := ((0 : Nat) : Int)) (ex_l e12 hgs) (atI_nat rfl))) (kitB_isa y).2.2.2.1) (by rw [← listD_isa])) fun _ => ev_is (ev_isi (dp_ex e12 _ _ pz) (ev_op (ev_var rfl) ev_c (rv_ixL (i := ((1 : Nat) : Int)) (ex_l e12 hgs) (atI_nat rfl))) (kitB_isa z).2.2.2.1) (by rw [← listD_isa])) fun H13 e13 => q H13 ((e011.trans e12).trans e13)
            · rw [bad_no (stm_no (n := 4) (by decide) (by simpa using hl))] at q
              refine q_when (b := true) (et_or (a := false) (b := true) (et_is (et_test (ev_op (ev_var rfl) ev_c (rv_ne rfl))) tne) fun _ => et_or (a := true) (b := false) (et_is (et_test (lenN e rfl)) (by rw [decide_eq_false hl]; rfl)) fun h => (nomatch h)) (fun _ H10 e10 => ?_) fun h => (nomatch h)
              exact s_ret ev_c fun H11 e11 => q H11 ((e.trans e10).trans e11)
          · have hno : stmD c m (.tuple (.str x :: a :: r)) = false := stm_sized (by
              rw [sizedD, szOf, if_neg hw1, if_neg hw2, if_neg hw5, if_neg hw6, if_neg hw4, if_neg hw, if_neg hw3]; rfl)
            rw [bad_no hno] at q
            refine q_when (b := true) (et_or (a := true) (b := false) (et_is (et_test (ev_op (ev_var rfl) ev_c (rv_ne rfl))) (by rw [ne hw]; rfl)) fun h => (nomatch h)) (fun _ H10 e10 => ?_) fun h => (nomatch h)
            exact s_ret ev_c fun H11 e11 => q H11 ((e.trans e10).trans e11)
end
/-! ### a heap without one object -/
def Ct (p : Addr) (H : Hp) : Hp := fun a => if a = p then none else H a
section
variable {K : PySem.W.Frag} {H H' Hb : Hp} {p a : Addr} {σ : L2.St} {ta tb te tl : TE}
theorem ct_self : Ct p H p = none := by rw [Ct, if_pos rfl]
theorem ct_o {o : HO} (h : H a = some o) (n : a ≠ p) : Ct p H a = some o := by rw [Ct, if_neg n]; exact h
theorem ct_ne {o : HO} (h : Ct p H a = some o) : a ≠ p ∧ H a = some o := by
  by_cases e : a = p
  · rw [Ct, if_pos e] at h; cases h
  · rw [Ct, if_neg e] at h; exact ⟨e, h⟩
theorem ct_ex : Ex (Ct p H) H := fun a o h => (ct_ne h).2
theorem ct_of (e : Oth p H H') : Ex (Ct p H) H' := fun a o h => e a o (ct_ne h).1 (ct_ne h).2
theorem ct_oth (e : Oth p H H') : Ex (Ct p H) (Ct p H') := fun a o h => ct_o (e a o (ct_ne h).1 (ct_ne h).2) (ct_ne h).1
theorem ct_mono (e : Ex H H') : Ex (Ct p H) (Ct p H') := ct_oth (.of e)
theorem ct_base (h : Ex Hb H) (hp : Hb p = none) : Ex Hb (Ct p H) := fun a o ha => ct_o (h a o ha) fun z => by rw [z, hp] at ha; cases ha
theorem ex_oth (h : Ex Hb H) (hp : Hb p = none) (o : Oth p H H') : Ex Hb H' := fun a u ha => o a u (fun z => by rw [z, hp] at ha; cases ha) (h a u ha)
theorem ct_rd {u : HO} {l : List V} (hp : H p = some (.lst l)) (h : Rd H a u) (hu : ∀ l, u ≠ .lst l) : Rd (Ct p H) a u := by
  rcases h with h | ⟨o, h⟩
  · exact .inl (ct_o h fun z => by rw [z, hp] at h; exact hu _ (Option.some.inj h).symm)
  · exact .inr ⟨o, ct_o h fun z => by rw [z, hp] at h; cases h⟩
theorem ct_t {xs l : List V} (hp : H p = some (.lst l)) (h : SqT K H a xs) : SqT K (Ct p H) a xs := by
  rcases h with h | h
  · exact .inl (ct_rd hp h fun l e => by cases e)
  · exact .inr h
/-! ### arguments of one kind -/
def EvW (Φ : V → Hp → Prop) (ta : TA) (σ : L2.St) (H : Hp) (n : Nat) : Prop := ∀ H1, Ex H H1 → ∀ Q : List V → Hp → Prop, (∀ vs H2, Ex H1 H2 → vs.length = n → (∀ v ∈ vs, Φ v H2) → Q vs H2) → ta σ H1 Q
theorem ew_nil {Φ : V → Hp → Prop} : EvW Φ tNil σ H 0 := fun H1 _ _ q => q [] H1 (Ex.refl H1) rfl fun _ h => by cases h
theorem ew_cons {Φ : V → Hp → Prop} {tr : TA} {n : Nat} (mono : ∀ v H H', Ex H H' → Φ v H → Φ v H') (h : EvP te σ H Φ) (hr : EvW Φ tr σ H n) : EvW Φ (tCons te tr) σ H (n + 1) := fun H1 e _ q =>
  h H1 e _ fun v H2 e2 f => hr H2 (e.trans e2) _ fun vs H3 e3 hl hv => q (v :: vs) H3 (e2.trans e3) (by rw [List.length_cons, hl]) fun w hw => by
    rcases List.mem_cons.mp hw with rfl | hw
    · exact mono _ _ _ e3 f
    · exact hv w hw
def TupIs (K : PySem.W.Frag) (xs : List V) (v : V) (H : Hp) : Prop := ∃ a, v = .ref a ∧ SqT K H a xs
theorem ti_var {i : Nat} {xs : List V} (h : σ[i]? = some (some (.ref a))) (hs : SqT K H a xs) : EvP (tVar i) σ H (TupIs K xs) := ep_ev (ev_var h) fun H2 e => ⟨a, rfl, ex_t e hs⟩
theorem ti_tup {tr : TA} {vs : List V} (h : EvA tr σ H vs) (hl : vs.length ≤ 100000) : EvP (tTup tr) σ H (TupIs K vs) := fun H1 e _ q =>
  h H1 e _ fun H2 e2 => ⟨sz_of hl, fun T hT => q _ _ (e2.trans (Ex.new hT)) ⟨T, rfl, st_of upd_same⟩⟩
theorem ti_cat {tr : TA} {xs ys : List V} (h1 : EvP ta σ H (TupIs K xs)) (h : EvA tr σ H ys) (hy : ys ≠ []) (l1 : xs.length ≤ 1000) (l2 : ys.length ≤ 1000) : EvP (tOp (rCatA K) ta (tTup tr)) σ H (TupIs K (xs ++ ys)) := fun H1 e Q q =>
  h1 H1 e _ fun v H2 e2 ⟨a, hv, ha⟩ => h H2 (e.trans e2) _ fun H3 e3 => ⟨sz_of (by omega), fun T hT => by
    have eT := Ex.new (o := .tup ys) hT
    refine ⟨a, T, xs, ys, hv, rfl, ex_t (e3.trans eT) ha, st_of upd_same, sz_of (by omega), fun h0 => ?_, fun _ h0 => absurd h0 hy, fun _ _ T2 n2 => ?_⟩
    · refine q _ _ ((e2.trans e3).trans eT) ⟨T, rfl, ?_⟩
      rw [h0, List.nil_append]
      exact st_of upd_same
    · exact q _ _ (((e2.trans e3).trans eT).trans (Ex.new n2)) ⟨T2, rfl, st_of upd_same⟩⟩
theorem cut_init (xs : List V) (h : xs ≠ []) : cutV xs none (some ((xs.length : Int) - 1)) = xs.take (xs.length - 1) := by
  have h0 : 0 < xs.length := List.length_pos_iff.mpr h
  unfold cutV
  rw [HT.sIx_none, show ((xs.length : Int) - 1) = ((xs.length - 1 : Nat) : Int) by omega, show HT.sIx xs.length xs.length (some ((xs.length - 1 : Nat) : Int)) = min (xs.length - 1) xs.length from HT.sIx_nat xs.length xs.length _]
  show (xs.drop 0).take (min (xs.length - 1) xs.length - 0) = _
  rw [List.drop_zero, Nat.sub_zero, Nat.min_eq_left (by omega)]
theorem ti_init {i : Nat} {xs : List V} (h : σ[i]? = some (some (.ref a))) (hs : SqT K H a xs) (hx : xs ≠ []) : EvP (tSl (rSlT K) (tVar i) tNoPart (tPart (tOp (rI0 fun i j => .int (i - j)) (tCB (rLenS K) (tCons (tVar i) tNil)) (tC (.int 1))))) σ H (TupIs K (xs.take (xs.length - 1))) := fun H1 e Q q => by
  have h0 : 0 < xs.length := List.length_pos_iff.mpr hx
  refine ⟨.ref a, h, ?_⟩
  refine ev_op (ev_lenS (ev_var h) (.inr (ex_t e hs))) ev_c rv_I0 H1 (Ex.refl H1) _ fun H2 e2 => ?_
  refine ⟨(xs.length : Int) - 1, rfl, a, xs, rfl, ex_t (e.trans e2) hs, fun ⟨_, z⟩ => ?_, fun T nT => ?_⟩
  · rw [show ((xs.length : Int) - 1) = ((xs.length - 1 : Nat) : Int) by omega, show HT.sIx xs.length xs.length (some ((xs.length - 1 : Nat) : Int)) = min (xs.length - 1) xs.length from HT.sIx_nat xs.length xs.length _] at z
    omega
  · refine q _ _ (e2.trans (Ex.new nT)) ⟨T, rfl, ?_⟩
    rw [← cut_init xs hx]
    exact st_of upd_same
end
/-! ### the law's blocks of a statement -/
abbrev s_law_blocks : Stmt := topS 47
theorem sc_law_blocks : FnScope ["statement"] ["statement"] (defScope s_law_blocks) := ⟨rfl, rfl, rfl, by decide +kernel, rfl, by decide +kernel, by decide +kernel⟩
section
variable {P : Program} {w : World} {K : PySem.W.Frag} {mg : Str → Option Value} {base : Heap} {σ : L2.St} {H H' H0 : Hp}
def spLBlocks (K : PySem.W.Frag) : Sp := fun vs H Q _ => ∃ (v : V) (d : PyData) (c m : Nat) (H0 : Hp), vs = [v] ∧ Ex H0 H ∧ Dp K H0 v d ∧ stmD c m d = true ∧ ∀ B bs H', Ex H H' → SqL K H' B bs → DpAll K H0 bs (blocksD d) → Q (.ref B) H'
theorem ok_lblocks {f : Addr} {fd : FuncData} {k : Nat} (F : Fun K "_law_blocks" "_law_blocks" s_law_blocks f fd) : FnOk P w K mg base CX0 (k + 1) f fd ["statement"] (spLBlocks K) := by
  have sc := sc_law_blocks
  refine F.ok sc (fun vs H Q E h => ?_) (fun cdv A outer s H vs Q E hr h => ?_)
  · obtain ⟨v, d, c, m, H0, rfl, _⟩ := h
    rfl
  · obtain ⟨v, d, c, m, H0, rfl, e0, hd, hst, q⟩ := h
    refine ⟨_, (pss_cons (ps_if (pt_cmpR op_eq (pe_ix ix_tup (pv 0) pe_int (fun _ _ => rfl)) pe_str (nomark _))
      (pss_one (ps_ret (pe_lst (pa_cons (pe_ix ix_tup (pv 0) pe_int (fun _ _ => rfl)) pa_nil))))
      pss_nil)
      (pss_cons (ps_if (pt_cmpR op_eq (pe_ix ix_tup (pv 0) pe_int (fun _ _ => rfl)) pe_str (nomark _))
      (pss_one (ps_ret (pe_lst (pa_cons (pe_ix ix_tup (pv 0) pe_int (fun _ _ => rfl)) pa_nil))))
      pss_nil)
      (pss_cons (ps_if (pt_cmpR op_eq (pe_ix ix_tup (pv 0) pe_int (fun _ _ => rfl)) pe_str (nomark _))
      (pss_one (ps_ret (pe_lst (pa_cons (pe_ix ix_tup (pv 0) pe_int (fun _ _ => rfl)) (pa_cons (pe_ix ix_tup (pv 0) pe_int (fun _ _ => rfl)) pa_nil)))))
      pss_nil)
      (pss_cons (ps_if (pt_cmpR op_eq (pe_ix ix_tup (pv 0) pe_int (fun _ _ => rfl)) pe_str (nomark _))
      (pss_one (ps_ret (pe_ix ix_tup (pv 0) pe_int (fun _ _ => rfl))))
      pss_nil)
      (pss_one (ps_ret (pe_lst pa_nil))))))), ?_⟩
    have skip : ∀ {D : Ends} {tr tz : TS} {x y : Str} {σ : L2.St} {H1 : Hp} {t : Addr} {r : List V}, σ[0]? = some (some (.ref t)) → SqT K H1 t (.str x :: r) → decide (V.str x = V.str y) = false → (∀ H2, Ex H1 H2 → tz D σ H2) →
        tSeq (tIfS (tTest (tOp rEq (tOp (rIxT K) (tVar 0) (tC (.int 0))) (tC (.str y)))) tr tNext) tz D σ H1 := fun hσ hs hne kk =>
      q_when (et_test (ev_op (ev_at (j := 0) (ev_var hσ) hs rfl) ev_c (rv_eq rfl))) (fun h => by rw [hne] at h; cases h) fun _ H2 e => kk H2 e
    have here : ∀ {D : Ends} {tr tz : TS} {x : Str} {σ : L2.St} {H1 : Hp} {t : Addr} {r : List V}, σ[0]? = some (some (.ref t)) → SqT K H1 t (.str x :: r) → (∀ H2, Ex H1 H2 → tr { D with nx := tz D } σ H2) →
        tSeq (tIfS (tTest (tOp rEq (tOp (rIxT K) (tVar 0) (tC (.int 0))) (tC (.str x)))) tr tNext) tz D σ H1 := fun hσ hs kk =>
      q_when (et_test (ev_op (ev_at (j := 0) (ev_var hσ) hs rfl) ev_c (rv_eq rfl))) (fun _ H2 e => kk H2 e) fun h => by rw [decide_eq_true rfl] at h; cases h
    rcases sized_cases (stm_yes hst) with ⟨a, rfl⟩ | ⟨a, rfl⟩ | ⟨a, rfl⟩ | ⟨a, b, rfl⟩ | ⟨a, b, rfl⟩ | ⟨a, b, rfl⟩ | ⟨a, b, e, rfl⟩
    · obtain ⟨t, va, rfl, s, pa⟩ := items2 hd
      replace s := ex_t e0 s
      refine skip rfl s (by decide) fun H3 e3 => skip rfl (ex_t e3 s) (by decide) fun H4 e4 => skip rfl (ex_t (e3.trans e4) s) (by decide) fun H5 e5 => skip rfl (ex_t ((e3.trans e4).trans e5) s) (by decide) fun H6 e6 => ?_
      exact s_retL (el_lst ea_nil (by decide)) fun B H7 nB e7 hB => q B [] H7 ((((e3.trans e4).trans e5).trans e6).trans e7) (sq_of hB) .nil
    · obtain ⟨t, va, rfl, s, pa⟩ := items2 hd
      replace s := ex_t e0 s
      refine skip rfl s (by decide) fun H3 e3 => here rfl (ex_t e3 s) fun H4 e4 => ?_
      have e34 := e3.trans e4
      exact s_retL (el_lst (ea_cons (ev_at (j := 1) (ev_var rfl) (ex_t e34 s) rfl) ea_nil) (by show 1 ≤ 100000; decide)) fun B H7 nB e7 hB => q B [va] H7 (e34.trans e7) (sq_of hB) (.cons pa .nil)
    · obtain ⟨t, va, rfl, s, pa⟩ := items2 hd
      replace s := ex_t e0 s
      refine skip rfl s (by decide) fun H3 e3 => skip rfl (ex_t e3 s) (by decide) fun H4 e4 => skip rfl (ex_t (e3.trans e4) s) (by decide) fun H5 e5 => skip rfl (ex_t ((e3.trans e4).trans e5) s) (by decide) fun H6 e6 => ?_
      exact s_retL (el_lst ea_nil (by decide)) fun B H7 nB e7 hB => q B [] H7 ((((e3.trans e4).trans e5).trans e6).trans e7) (sq_of hB) .nil
    · obtain ⟨t, va, vb, rfl, s, pa, pb⟩ := items3 hd
      replace s := ex_t e0 s
      refine skip rfl s (by decide) fun H3 e3 => skip rfl (ex_t e3 s) (by decide) fun H4 e4 => skip rfl (ex_t (e3.trans e4) s) (by decide) fun H5 e5 => skip rfl (ex_t ((e3.trans e4).trans e5) s) (by decide) fun H6 e6 => ?_
      exact s_retL (el_lst ea_nil (by decide)) fun B H7 nB e7 hB => q B [] H7 ((((e3.trans e4).trans e5).trans e6).trans e7) (sq_of hB) .nil
    · obtain ⟨t, va, vb, rfl, s, pa, pb⟩ := items3 hd
      replace s := ex_t e0 s
      refine here rfl s fun H3 e3 => ?_
      exact s_retL (el_lst (ea_cons (ev_at (j := 2) (ev_var rfl) (ex_t e3 s) rfl) ea_nil) (by show 1 ≤ 100000; decide)) fun B H7 nB e7 hB => q B [vb] H7 (e3.trans e7) (sq_of hB) (.cons pb .nil)
    · obtain ⟨t, va, vb, rfl, s, pa, pb⟩ := items3 hd
      replace s := ex_t e0 s
      refine skip rfl s (by decide) fun H3 e3 => skip rfl (ex_t e3 s) (by decide) fun H4 e4 => here rfl (ex_t (e3.trans e4) s) fun H5 e5 => ?_
      have e35 := (e3.trans e4).trans e5
      exact s_retL (el_lst (ea_cons (ev_at (j := 1) (ev_var rfl) (ex_t e35 s) rfl) (ea_cons (ev_at (j := 2) (ev_var rfl) (ex_t e35 s) rfl) ea_nil)) (by show 2 ≤ 100000; decide)) fun B H7 nB e7 hB => q B [va, vb] H7 (e35.trans e7) (sq_of hB) (.cons pa (.cons pb .nil))
    · obtain ⟨t, va, vb, ve, rfl, s, pa, pb, pe⟩ := items4 hd
      have hp : pairD e = true := by
        have : (btw 0 ((m : Int) - 1) a && (rowD c b && pairD e)) = true := hst
        rw [Bool.and_eq_true, Bool.and_eq_true] at this
        exact this.2.2
      obtain ⟨x, y, rfl⟩ := pair_t hp
      obtain ⟨L, xs, rfl, hs, hx⟩ := dp_lst pe
      replace s := ex_t e0 s
      refine skip rfl s (by decide) fun H3 e3 => skip rfl (ex_t e3 s) (by decide) fun H4 e4 => skip rfl (ex_t (e3.trans e4) s) (by decide) fun H5 e5 => here rfl (ex_t ((e3.trans e4).trans e5) s) fun H6 e6 => ?_
      have e36 := ((e3.trans e4).trans e5).trans e6
      exact s_ret (ev_at (j := 3) (ev_var rfl) (ex_t e36 s) rfl) fun H7 e7 => q L xs H7 (e36.trans e7) (ex_l (e0.trans (e36.trans e7)) hs) hx
end
/-! ### the law's first fault -/
abbrev s_law_fault : Stmt := topS 54
theorem sc_law_fault : FnScope ["block", "cells", "many", "level", "path", "met", "at", "here", "blocks", "number", "found"] ["block", "cells", "many", "level", "path", "met"] (defScope s_law_fault) := ⟨rfl, rfl, rfl, by decide +kernel, rfl, by decide +kernel, by decide +kernel⟩
mutual
theorem allW_any : ∀ d : PyData, allW (fun _ => True) d
  | .list xs => by rw [allW]; exact allWs_any xs
  | .tuple xs => by
    rw [allW]
    refine ⟨?_, allWs_any xs⟩
    match xs with
    | [] => trivial
    | .str _ :: _ => trivial
    | .none :: _ => trivial
    | .bool _ :: _ => trivial
    | .int _ :: _ => trivial
    | .list _ :: _ => trivial
    | .tuple _ :: _ => trivial
    | .dict _ :: _ => trivial
  | .none => by simp [allW]
  | .bool _ => by simp [allW]
  | .int _ => by simp [allW]
  | .str _ => by simp [allW]
  | .dict _ => by simp [allW]
theorem allWs_any : ∀ ds : List PyData, allWs (fun _ => True) ds
  | [] => by rw [allWs]; trivial
  | d :: r => by rw [allWs]; exact ⟨allW_any d, allWs_any r⟩
end
section
variable {P : Program} {w : World} {K : PySem.W.Frag} {mg : Str → Option Value} {base : Heap} {σ : L2.St} {H H' Hb : Hp} {ta : TE} {p a : Addr}
theorem eu_cat {tr : TA} {xs ys : List V} (h1 : EvP ta σ H (TupIs K xs)) (h : EvA tr σ H ys) (hy : ys ≠ []) (l1 : xs.length ≤ 20000) (l2 : ys.length ≤ 1000) : EvU (tOp (rCatA K) ta (tTup tr)) σ H (xs ++ ys) := fun H1 e Q q =>
  h1 H1 e _ fun v H2 e2 ⟨a, hv, ha⟩ => h H2 (e.trans e2) _ fun H3 e3 => ⟨sz_of (by omega), fun T hT => by
    have eT := Ex.new (o := .tup ys) hT
    refine ⟨a, T, xs, ys, hv, rfl, ex_t (e3.trans eT) ha, st_of upd_same, sz_of (by omega), fun h0 => ?_, fun _ h0 => absurd h0 hy, fun _ _ T2 n2 => ?_⟩
    · refine q _ _ (fresh_back (e2.trans e3) hT) ((e2.trans e3).trans eT) ?_
      rw [h0, List.nil_append]
      exact upd_same
    · exact q _ _ (fresh_back ((e2.trans e3).trans eT) n2) (((e2.trans e3).trans eT).trans (Ex.new n2)) upd_same⟩
theorem ct_l {xs l : List V} (hp : H p = some (.lst l)) (hne : xs ≠ l) (h : SqL K H a xs) : SqL K (Ct p H) a xs := by
  rcases h with h | h
  · rcases h with h | ⟨o, h⟩
    · exact .inl (.inl (ct_o h fun z => by rw [z, hp] at h; exact hne (HO.lst.inj (Option.some.inj h)).symm))
    · exact .inl (.inr ⟨o, ct_o h fun z => by rw [z, hp] at h; cases h⟩)
  · exact .inr h
def FoundV (K : PySem.W.Frag) : Option (List Int) → V → Hp → Prop
  | none, w, _ => w = .non
  | some p, w, H => ∃ t, w = .ref t ∧ SqT K H t (p.map V.int)
def spLF (K : PySem.W.Frag) (n : Nat) : Sp := fun vs H Q _ => ∃ (v : V) (ds : List PyData) (c m lv j met : Nat) (t mt : Addr) (path : List Int) (Hb : Hp), vs = [v, .int (c : Int), .int (m : Int), .int (lv : Int), .ref t, .ref mt] ∧ n + lv = 4 ∧ 1 ≤ n ∧ H mt = some (.lst [.int (met : Int)]) ∧ Hb mt = none ∧ Ex Hb H ∧ Dp K Hb v (.list ds) ∧ fit (.list ds) j = true ∧ SqT K H t (path.map V.int) ∧ path.length = 2 * lv ∧ met ≤ 12 ∧
  ∀ w H', Oth mt H H' → H' mt = some (.lst [.int ((lf c m n lv path ds met).2 : Int)]) → FoundV K (lf c m n lv path ds met).1 w H' → Q w H'
theorem lf_le {c m n lv met : Nat} {path : List Int} {ds : List PyData} (hn : n + lv = 4) (h1 : 1 ≤ n) (hp : path.length = 2 * lv) (hm : met ≤ 12) (h : (lf c m n lv path ds met).1 = none) : (lf c m n lv path ds met).2 ≤ 12 :=
  ((rds_lf (c := c) (m := m) n lv path ds met hn h1 hp hm 13 [] (by omega)).2 h).2.1
theorem fault_step {f : Addr} {fd : FuncData} {n : Nat} (F : Fun K "_law_fault" "_law_fault" s_law_fault f fd) (z_range : mg "range" = none) (z_len : mg "len" = none) (C_law_is_statement : Cal P w K mg base 4 "_law_is_statement" (spLStm K) []) (C_law_blocks : Cal P w K mg base 1 "_law_blocks" (spLBlocks K) []) (C_law_fault : Cal P w K mg base (n + 4) "_law_fault" (spLF K n) []) :
    FnOk P w K mg base CX0 (n + 1 + 4) f fd ["block", "cells", "many", "level", "path", "met"] (spLF K (n + 1)) := by
  have sc := sc_law_fault
  refine F.ok sc (fun vs H Q E h => ?_) (fun cdv A outer s H vs Q E hr h => ?_)
  · obtain ⟨v, ds, c, m, lv, j, met, t, mt, path, Hb, rfl, _⟩ := h
    rfl
  · obtain ⟨v, ds, c, m, lv, j, met, t, mt, path, Hb, rfl, hn, _, hm, hbm, eb, hd, hf, ht, hp, hm12, q⟩ := h
    refine ⟨_, (pss_cons (ps_for PassesOwn.never rfl (pi_range1 (by rfl) z_range (pa_cons (pe_callB call_len_seq (by rfl) z_len (by decide +kernel) (pa_cons (pv 0) pa_nil)) pa_nil)) (pg_name (i := 6) sc.nd rfl (by first | exact Or.inl rfl | exact Or.inr rfl))
      (pss_cons (ps_set (i := 7) sc.nd rfl (by first | exact Or.inl rfl | exact Or.inr rfl) (pe_op op_catA (pv 4) (pe_tup (pa_cons (pv 6) pa_nil))))
      (pss_cons (ps_if (PW.pt (pw_or (pt_cmpR op_eq (pv 6) pe_int (nomark _)) (pw_or (pt_cmpR op_eq (pe_ix ix_list (pv 5) pe_int (fun _ _ => rfl)) pe_int (nomark _)) (pw_or1 (pt_not (pt_val (pe_c C_law_is_statement hr (by omega) (by rfl) (pa_cons (pe_ix ix_list (pv 0) (pv 6) (fun _ _ => rfl)) (pa_cons (pv 1) (pa_cons (pv 2) (pa_cons (pv 3) pa_nil)))))))))))
      (pss_one (ps_ret (pv 7)))
      pss_nil)
      (pss_cons (ps_asg (pe_op op_add (pe_ix ix_list (pv 5) pe_int (fun _ _ => rfl)) pe_int) (pg_sub (pv 5) pe_int set_list))
      (pss_cons (ps_set (i := 8) sc.nd rfl (by first | exact Or.inl rfl | exact Or.inr rfl) (pe_c C_law_blocks hr (by omega) (by rfl) (pa_cons (pe_ix ix_list (pv 0) (pv 6) (fun _ _ => rfl)) pa_nil)))
      (pss_one (ps_for PassesOwn.never rfl (pi_range1 (by rfl) z_range (pa_cons (pe_callB call_len_seq (by rfl) z_len (by decide +kernel) (pa_cons (pv 8) pa_nil)) pa_nil)) (pg_name (i := 9) sc.nd rfl (by first | exact Or.inl rfl | exact Or.inr rfl))
      (pss_cons (ps_set (i := 10) sc.nd rfl (by first | exact Or.inl rfl | exact Or.inr rfl) (pe_c C_law_fault hr (by omega) (by rfl) (pa_cons (pe_ix ix_list (pv 8) (pv 9) (fun _ _ => rfl)) (pa_cons (pv 1) (pa_cons (pv 2) (pa_cons (pe_op op_add (pv 3) pe_int) (pa_cons (pe_op op_catA (pv 7) (pe_tup (pa_cons (pv 9) pa_nil))) (pa_cons (pv 5) pa_nil))))))))
      (pss_one (ps_if (pt_cmpR op_notN (pv 10) pe_non (nomark _))
      (pss_one (ps_ret (pv 10)))
      pss_nil))))))))))
      (pss_one (ps_ret pe_non))), ?_⟩
    obtain ⟨a, xs, rfl, hs, hx⟩ := dp_lst hd
    obtain ⟨j', _, lx, gx⟩ := fit_list hf
    have lxs := dpa_len hx
    rw [lf] at q
    have ht0 : SqT K (Ct mt H) t (path.map V.int) := ct_t hm ht
    refine q_forR1 (n := (xs.length : Int)) (ea_cons (ev_lenS (ev_var rfl) (.inl (ex_l eb hs))) ea_nil) ⟨by omega, by omega⟩
      (fun i σ' H' => ∃ (x6 x7 x8 x9 x10 : Option V) (me : Nat), σ' = [some (.ref a), some (.int (c : Int)), some (.int (m : Int)), some (.int (lv : Int)), some (.ref t), some (.ref mt), x6, x7, x8, x9, x10] ∧ Oth mt H H' ∧ H' mt = some (.lst [.int (me : Int)]) ∧ me ≤ 12 ∧ i ≤ 8 ∧
        lfi c m lv (fun here d met => lfs (lf c m n (lv + 1)) here 0 (blocksD d) met) path 0 ds met = lfi c m lv (fun here d met => lfs (lf c m n (lv + 1)) here 0 (blocksD d) met) path i (ds.drop i) me)
      (fun H1 e1 => ⟨none, none, none, none, none, met, rfl, .of e1, e1 _ _ hm, hm12, by omega, by rw [List.drop_zero]⟩) (fun i σ' H1 hi hP => ?_) (fun σ' H1 hP => ?_)
    · obtain ⟨x6, x7, x8, x9, x10, me, rfl, o1, h1, hme, hi8, hu⟩ := hP
      have hi2 : i < ds.length := by omega
      have hdi := List.getElem?_eq_getElem hi2
      have hdr := List.drop_eq_getElem_cons hi2
      generalize ds[i] = d at hdi hdr
      rw [hdr] at hu
      obtain ⟨vx, hxi, dvx⟩ := dpa_get hx hdi
      have fd : fit d j' = true := fitAll_mem gx (List.mem_of_getElem? hdi)
      have eb1 := ex_oth eb hbm o1
      -- here
      refine q_asgU (eu_cat (ti_var rfl (ex_t (ct_of o1) ht0)) (ea_cons (ev_var rfl) ea_nil) (by simp) (by rw [List.length_map, hp]; omega) (by show 1 ≤ 1000; decide)) fun T H2 nT e2 hT => ?_
      have hTm : path.map V.int ++ [.int (i : Int)] = (path ++ [(i : Int)]).map V.int := by rw [List.map_append]; rfl
      rw [hTm] at hT
      have lhp : (path ++ [(i : Int)]).length = 2 * lv + 1 := by rw [List.length_append, List.length_singleton, hp]
      have eb2 := eb1.trans e2
      have h2 := e2 _ _ h1
      refine q_when (b := decide (i = 8) || decide (me = 12) || badS c m lv d) (et_is (et_or (et_test (ev_op (ev_var rfl) ev_c (rv_eq rfl))) fun _ => et_or (et_test (ev_op (ev_op (ev_var rfl) ev_c (rv_ixL (i := ((0 : Nat) : Int)) (v := .int (me : Int)) (sq_of h2) (atI_nat rfl))) ev_c (rv_eq rfl))) fun _ => et_not (et_B (ev_call (ea_cons (ev_op (ev_var rfl) (ev_var rfl) (rv_ixL (ex_l eb2 hs) (atI_nat hxi))) (ea_cons (ev_var rfl) (ea_cons (ev_var rfl) (ea_cons (ev_var rfl) ea_nil)))) fun H3 e3 Q' q' _ => ⟨vx, d, c, m, lv, j', rfl, dp_ex (eb2.trans e3) _ _ dvx, fd, by omega, q'⟩))) ?_) (fun hc H3 e3 => ?_) (fun hc H3 e3 => ?_)
      · rw [Bool.not_not, Bool.or_assoc]
        congr 1
        · rw [decide_eq_decide]
          exact ⟨fun h => by have := V.int.inj h; omega, fun h => by rw [h]; rfl⟩
        · congr 1
          rw [decide_eq_decide]
          exact ⟨fun h => by have := V.int.inj h; omega, fun h => by rw [h]; rfl⟩
      · -- a fault
        rw [lfi, if_pos hc] at hu
        rw [hu] at q
        exact s_ret (ev_var rfl) fun H4 e4 => q _ _ (o1.trans (.of (e2.trans (e3.trans e4)))) (e4 _ _ (e3 _ _ h2)) ⟨T, rfl, st_of (e4 _ _ (e3 _ _ hT))⟩
      · simp only [Bool.or_eq_false_iff, decide_eq_false_iff_not] at hc
        obtain ⟨⟨hi8', hme'⟩, hbad⟩ := hc
        rw [lfi, if_neg (by simp [hi8', hme', hbad])] at hu
        have hst : stmD c m d = true ∧ (lv < 3 ∨ blocksD d = []) := by
          rw [badS, Bool.not_eq_false', Bool.and_eq_true, Bool.or_eq_true, decide_eq_true_eq, List.isEmpty_iff] at hbad
          exact hbad
        have bg := blocks_good (ok := fun _ => True) hst.1 ⟨_, fd⟩ (allW_any d)
        -- met
        refine q_setL (l := mt) (xs := [.int (me : Int)]) (j := 0) (v := .int ((me : Int) + 1)) (e3 _ _ h2) (ev_op (ev_op (ev_var rfl) ev_c (rv_ixL (i := ((0 : Nat) : Int)) (v := .int (me : Int)) (sq_of (e3 _ _ h2)) (atI_nat rfl))) ev_c rv_I0) (ev_var rfl) ev_c (by show 0 < 1; decide) fun H4 e4 => ?_
        have o4 : Oth mt H (upd H4 mt (.lst ([V.int (me : Int)].set 0 (.int ((me : Int) + 1))))) := (o1.trans (.of (e2.trans (e3.trans e4)))).trans Oth.upd
        have hT5 : SqT K (Ct mt (upd H4 mt (.lst ([V.int (me : Int)].set 0 (.int ((me : Int) + 1)))))) T ((path ++ [(i : Int)]).map V.int) := by
          have h := ct_t (e4 _ _ (e3 _ _ h2)) (K := K) (st_of (e4 _ _ (e3 _ _ hT)))
          exact ex_t (ct_oth Oth.upd) h
        have h5 : upd H4 mt (.lst ([V.int (me : Int)].set 0 (.int ((me : Int) + 1)))) mt = some (.lst [.int ((me + 1 : Nat) : Int)]) := upd_same
        generalize upd H4 mt (.lst ([V.int (me : Int)].set 0 (.int ((me : Int) + 1)))) = H5 at o4 h5 hT5 ⊢
        have eb5 := ex_oth eb hbm o4
        -- blocks
        refine q_run ?_
        refine ⟨.ref a, rfl, .int (i : Int), rfl, a, xs, (i : Int), vx, rfl, rfl, ex_l eb5 hs, atI_nat hxi, vx, d, c, m, Hb, rfl, eb5, dvx, hst.1, fun B bs H6 e6 hB hbs => ?_⟩
        have lbs := dpa_len hbs
        have h6 := e6 _ _ h5
        have hB6 : SqL K (Ct mt H6) B bs := ct_l h6 (fun z => by
          rw [z] at hbs
          cases hz : blocksD d with
          | nil => rw [hz] at hbs; cases hbs
          | cons y r =>
            obtain ⟨es, rfl, _⟩ := bg y (by rw [hz]; exact List.mem_cons_self ..)
            rw [hz] at hbs
            cases hbs with
            | cons h _ => cases h) hB
        have hT6 := ex_t (ct_mono e6) hT5
        have o6 := o4.trans (.of e6)
        have lb2 := blocks_len (d := d)
        dsimp only
        refine s_forR1 (n := (bs.length : Int)) (ea_cons (ev_lenS (ev_var rfl) (.inl hB)) ea_nil) ⟨by omega, by omega⟩
          (fun j σ' H' => ∃ (x9 x10 : Option V) (me2 : Nat), σ' = [some (.ref a), some (.int (c : Int)), some (.int (m : Int)), some (.int (lv : Int)), some (.ref t), some (.ref mt), some (.int (i : Int)), some (.ref T), some (.ref B), x9, x10] ∧ Oth mt H6 H' ∧ H' mt = some (.lst [.int (me2 : Int)]) ∧ me2 ≤ 12 ∧
            lfs (lf c m n (lv + 1)) (path ++ [(i : Int)]) 0 (blocksD d) (me + 1) = lfs (lf c m n (lv + 1)) (path ++ [(i : Int)]) j ((blocksD d).drop j) me2)
          (fun H7 e7 => ⟨x9, x10, me + 1, rfl, .of e7, e7 _ _ h6, by omega, by rw [List.drop_zero]⟩) (fun j σ' H7 hj hP => ?_) (fun σ' H7 hP => ?_)
        · obtain ⟨y9, y10, me2, rfl, o7, h7, hme2, hv⟩ := hP
          have hj2 : j < (blocksD d).length := by omega
          have hbj := List.getElem?_eq_getElem hj2
          have hbd := List.drop_eq_getElem_cons hj2
          have hmem := List.getElem_mem hj2
          generalize (blocksD d)[j] = bk at hbj hbd hmem
          rw [hbd, lfs] at hv
          obtain ⟨es, rfl, les, ⟨jf, fes⟩, hall⟩ := bg bk hmem
          obtain ⟨vb, hvb, dvb⟩ := dpa_get hbs hbj
          have hlv : lv < 3 := hst.2.elim id fun z => by rw [z] at hj2; simp at hj2
          have oall := o6.trans o7
          have eb7 := ex_oth eb hbm oall
          have fes' : fit (.list es) (jf + 1) = true := lv_len les (by
            clear hv hbj hbd hmem dvb les hall
            induction es with
            | nil => rw [fitAll]
            | cons y r ih => rw [fitAll, fes y (List.mem_cons_self ..), ih fun e he => fes e (List.mem_cons_of_mem _ he)]; rfl)
          refine q_run ?_
          refine ⟨.ref B, rfl, .int (j : Int), rfl, B, bs, (j : Int), vb, rfl, rfl, ex_l (ct_of o7) hB6, atI_nat hvb, .int (c : Int), rfl, .int (m : Int), rfl, .int (lv : Int), rfl, (lv : Int), 1, rfl, rfl, ?_⟩
          refine eu_cat (ti_var rfl (ex_t (ct_of o7) hT6)) (ea_cons (ev_var rfl) ea_nil) (by simp) (by rw [List.length_map]; omega) (by show 1 ≤ 1000; decide) H7 (Ex.refl _) _ fun T2 H8 nT2 e8 hT2 => ⟨.ref mt, rfl, ?_⟩
          have hT2m : (path ++ [(i : Int)]).map V.int ++ [.int (j : Int)] = (path ++ [(i : Int)] ++ [(j : Int)]).map V.int := by simp
          rw [hT2m] at hT2
          refine ⟨vb, es, c, m, lv + 1, jf + 1, me2, T2, mt, path ++ [(i : Int)] ++ [(j : Int)], Hb, rfl, by omega, by omega, e8 _ _ h7, hbm, eb7.trans e8, dvb, fes', st_of hT2, by rw [List.length_append, List.length_singleton]; omega, hme2, fun wv H9 o9 h9 fv => ?_⟩
          have hle := lf_le (c := c) (m := m) (n := n) (lv := lv + 1) (met := me2) (path := path ++ [(i : Int)] ++ [(j : Int)]) (ds := es) (by omega) (by omega) (by rw [List.length_append, List.length_singleton]; omega) hme2
          rw [show elems (.list es) = es from rfl] at hv
          generalize lf c m n (lv + 1) (path ++ [(i : Int)] ++ [(j : Int)]) es me2 = res at hv h9 fv hle
          obtain ⟨r1, r2⟩ := res
          have o89 := (Oth.of (p := mt) e8).trans o9
          cases r1 with
          | some pf =>
            have hso : ((some pf, r2) : Fnd).1.isSome = true := rfl
            rw [if_pos hso] at hv
            rw [hv, if_pos hso] at hu
            rw [hu] at q
            obtain ⟨t9, rfl, ht9⟩ := fv
            refine s_when (b := true) (et_is (et_test (ev_op (ev_var rfl) ev_c (rv_val fun _ _ _ q => ⟨rfl, q⟩))) (by rfl)) (fun _ H10 e10 => ?_) fun h => (nomatch h)
            exact s_ret (ev_var rfl) fun H11 e11 => q _ _ (oall.trans (o89.trans (.of (e10.trans e11)))) (e11 _ _ (e10 _ _ h9)) ⟨t9, rfl, ex_t (e10.trans e11) ht9⟩
          | none =>
            rw [if_neg (show ¬ ((none, r2) : Fnd).1.isSome = true from Bool.false_ne_true)] at hv
            have fv : wv = .non := fv
            subst fv
            refine s_when (b := false) (et_is (et_test (ev_op (ev_var rfl) ev_c (rv_val fun _ _ _ q => ⟨rfl, q⟩))) (by rfl)) (fun h => (nomatch h)) fun _ H10 e10 => ?_
            exact ⟨_, _, r2, rfl, o7.trans (o89.trans (.of e10)), e10 _ _ h9, hle rfl, hv⟩
        · obtain ⟨y9, y10, me2, rfl, o7, h7, hme2, hv⟩ := hP
          have hz : (blocksD d).drop ((bs.length : Int).toNat) = [] := List.drop_of_length_le (by omega)
          rw [hz, lfs] at hv
          rw [hv, if_neg (show ¬ ((none, me2) : Fnd).1.isSome = true from Bool.false_ne_true)] at hu
          exact ⟨_, _, _, _, _, me2, rfl, o6.trans o7, h7, hme2, by omega, hu⟩
    · obtain ⟨x6, x7, x8, x9, x10, me, rfl, o1, h1, hme, hi8, hu⟩ := hP
      have hz : ds.drop ((xs.length : Int).toNat) = [] := List.drop_of_length_le (by omega)
      rw [hz, lfi] at hu
      rw [hu] at q
      exact s_ret ev_c fun H4 e4 => q _ _ (o1.trans (.of e4)) (e4 _ _ h1) rfl
theorem ok_lfault {f : Addr} {fd : FuncData} (F : Fun K "_law_fault" "_law_fault" s_law_fault f fd) (g : mg "_law_fault" = some (.ref f)) (b : Binds K fd ["block", "cells", "many", "level", "path", "met"] []) (z_range : mg "range" = none) (z_len : mg "len" = none) (C_law_is_statement : Cal P w K mg base 4 "_law_is_statement" (spLStm K) []) (C_law_blocks : Cal P w K mg base 1 "_law_blocks" (spLBlocks K) []) :
    ∀ n, FnOk P w K mg base CX0 (n + 4) f fd ["block", "cells", "many", "level", "path", "met"] (spLF K n)
  | 0 => ⟨fun _ _ _ _ ⟨_, _, _, _, _, _, _, _, _, _, _, _, _, h, _⟩ => by omega, fun _ _ _ _ _ _ _ _ _ _ _ _ _ ⟨_, _, _, _, _, _, _, _, _, _, _, _, _, h, _⟩ => by omega⟩
  | n + 1 => fault_step F z_range z_len C_law_is_statement C_law_blocks ⟨f, fd, _, [], ok_lfault F g b z_range z_len C_law_is_statement C_law_blocks n, g, F.kp, b, .nil⟩
end
/-! ### NoBook's fields -/
abbrev sNoBook___init__ : Stmt := inClass (topS 13) 0
theorem scNoBook___init__ : FnScope ["self", "procedure", "path"] ["self", "procedure", "path"] (defScope sNoBook___init__) := ⟨rfl, rfl, rfl, by decide +kernel, rfl, by decide +kernel, by decide +kernel⟩
section
variable {P : Program} {w : World} {K : PySem.W.Frag} {mg : Str → Option Value} {base : Heap} {σ : L2.St} {H H' : Hp}
def spNB (K : PySem.W.Frag) (C : Addr) : Sp := fun vs H Q _ => ∃ (a : Addr) (i : Int) (t : Addr) (p : List Int), vs = [.ref a, .int i, .ref t] ∧ H a = some (exo a C none) ∧ SqT K H t (p.map V.int) ∧ p.length ≤ 1000 ∧
  ∀ (dx T : Addr) (H' : Hp), Oth a H H' → H' a = some (exo a C (some dx)) → H' dx = some (exd dx [("path", .ref T), ("procedure", .int i)]) → H dx = none → H' T = some (.tup (p.map V.int)) → T ≠ a → Q .non H'
theorem sqt_exo {a t C : Addr} {d : Option Addr} {xs : List V} (ha : H a = some (exo a C d)) (o : Oth a H H') (h : SqT K H t xs) : SqT K H' t xs := by
  rcases h with h | h
  · rcases h with h | ⟨u, h⟩
    · exact .inl (.inl (o _ _ (fun z => by rw [z, ha] at h; exact exo_tup (Option.some.inj h)) h))
    · exact .inl (.inr ⟨u, o _ _ (fun z => by rw [z, ha] at h; exact exo_frz (Option.some.inj h)) h⟩)
  · exact .inr h
theorem dqa_vals {N : Addr → Prop} : ∀ {xs : List V} {l : List Int}, DqAll N H xs (l.map PyData.int) → xs = l.map V.int
  | _, [], .nil => rfl
  | _, i :: r, .cons (.int _) h => by rw [List.map_cons, dqa_vals h]
theorem ok_nobook {C f : Addr} {fd : FuncData} {k cn : Nat} (F : Fun K "__init__" "NoBook.__init__" sNoBook___init__ f fd) (T : OexC K C) (n1 : PySem.W.findIn K (.ref C) "procedure" = some none) (n2 : PySem.W.findIn K (.ref C) "path" = some none)
    (Ccopied : Cal P w K mg base 15 "copied" (spCopy K 15) []) (hk : 15 ≤ k) : FnOk P w K mg base CX0 (k + 1) f fd ["self", "procedure", "path"] (spNB K C) := by
  have sc := scNoBook___init__
  refine F.ok sc (fun vs H Q E h => ?_) (fun cdv A outer s H vs Q E hr h => ?_)
  · obtain ⟨a, i, t, p, rfl, _⟩ := h
    rfl
  · obtain ⟨a, i, t, p, rfl, ha, ht, hp, q⟩ := h
    refine ⟨_, (pss_cons (ps_ost (pv 0) (pe_c Ccopied hr (by omega) (by rfl) (pa_cons (pv 1) pa_nil)))
      (pss_one (ps_ost (pv 0) (pe_c Ccopied hr (by omega) (by rfl) (pa_cons (pv 2) pa_nil))))), ?_⟩
    refine cp_call (n := 15) rfl (ev_var rfl) (.int i) (by simp [fit]) H (Ex.refl _) _ fun y H1 e1 dq1 => ?_
    cases dq1
    refine ⟨.ref a, rfl, a, C, rfl, T, n1, .inl ⟨e1 _ _ ha, fun dx hdx hne => ?_⟩⟩
    have o2 : Oth a H (upd (upd H1 dx (exd dx [("procedure", .int i)])) a (exo a C (some dx))) := fun b u nb hb => by
      rw [upd_ne nb, upd_ne fun z => by rw [← z, e1 _ _ hb] at hdx; cases hdx]
      exact e1 _ _ hb
    have hd2 : upd (upd H1 dx (exd dx [("procedure", .int i)])) a (exo a C (some dx)) dx = some (exd dx [("procedure", .int i)]) := by rw [upd_ne hne, upd_same]
    have ha2 : upd (upd H1 dx (exd dx [("procedure", .int i)])) a (exo a C (some dx)) a = some (exo a C (some dx)) := upd_same
    generalize upd (upd H1 dx (exd dx [("procedure", .int i)])) a (exo a C (some dx)) = H2 at o2 hd2 ha2 ⊢
    have ht2 := sqt_exo ha o2 ht
    refine cp_call (n := 15) rfl (ev_var rfl) (.tup ht2 (dpa_ints p)) (by rw [fit, fit_ints, Bool.and_true, decide_eq_true_eq, List.length_map]; omega) H2 (Ex.refl _) _ fun y H3 e3 dq3 => ?_
    cases dq3 with
    | @tup T1 xs _ nT hT hx =>
      rw [dqa_vals hx] at hT
      refine ⟨.ref a, rfl, a, C, rfl, T, n2, .inr ⟨dx, [("procedure", .int i)], e3 _ _ ha2, e3 _ _ hd2, by show 1 ≤ 900; decide, ?_⟩⟩
      have nTa : T1 ≠ a := new_ne nT ⟨_, ha2⟩
      have nTd : T1 ≠ dx := new_ne nT ⟨_, hd2⟩
      refine q dx T1 _ (fun b u nb hb => ?_) (by rw [upd_ne hne.symm]; exact e3 _ _ ha2) upd_same (fresh_back e1 hdx) (by rw [upd_ne nTd]; exact hT) nTa
      rw [upd_ne fun z => by rw [← z, e1 _ _ hb] at hdx; cases hdx]
      exact e3 _ _ (o2 _ _ nb hb)
end
/-! ### check_bodies, faults and all -/
theorem lfs_len {F : List Int → List PyData → Nat → Fnd} {here : List Int} {L : Nat} (hF : ∀ (j : Nat) (ds : List PyData) (met : Nat) (p : List Int), (F (here ++ [(j : Int)]) ds met).1 = some p → p.length ≤ L) : ∀ (bs : List PyData) (k met : Nat) (p : List Int), (lfs F here k bs met).1 = some p → p.length ≤ L
  | [], k, met, p, h => by rw [lfs] at h; cases h
  | b :: r, k, met, p, h => by
    rw [lfs] at h
    split at h
    · exact hF _ _ _ _ h
    · exact lfs_len hF r _ _ p h
theorem lfi_len {c m lv L : Nat} {G : List Int → PyData → Nat → Fnd} {path : List Int} (hL : path.length + 1 ≤ L) (hG : ∀ (i : Nat) (d : PyData) (met : Nat) (p : List Int), (G (path ++ [(i : Int)]) d met).1 = some p → p.length ≤ L) : ∀ (ds : List PyData) (i met : Nat) (p : List Int), (lfi c m lv G path i ds met).1 = some p → p.length ≤ L
  | [], i, met, p, h => by rw [lfi] at h; cases h
  | d :: r, i, met, p, h => by
    rw [lfi] at h
    split at h
    · cases h
      rw [List.length_append, List.length_singleton]; exact hL
    · split at h
      · exact hG _ _ _ _ h
      · exact lfi_len hL hG r _ _ p h
theorem lf_len {c m : Nat} : ∀ (n lv : Nat) (path : List Int) (ds : List PyData) (met : Nat) (p : List Int), (lf c m n lv path ds met).1 = some p → p.length ≤ path.length + 2 * n
  | 0, _, _, _, _, p, h => by rw [lf] at h; cases h
  | n + 1, lv, path, ds, met, p, h => by
    rw [lf] at h
    refine lfi_len (L := path.length + 2 * (n + 1)) (by omega) (fun i d met p h => ?_) ds 0 met p h
    refine lfs_len (L := path.length + 2 * (n + 1)) (fun j ds met p h => ?_) _ 0 met p h
    have := lf_len n (lv + 1) _ ds met p h
    rw [List.length_append, List.length_append, List.length_singleton, List.length_singleton] at this
    omega
theorem first_len {c m : Nat} {ds : List PyData} {p : List Int} (h : firstD c m ds = some p) : p.length ≤ 8 := by
  rw [← lf_first] at h
  exact lf_len 4 0 [] ds 0 p h
theorem paired_get2 {α β : Type} {R : α → β → Prop} : ∀ {xs : List α} {ys : List β} {i : Nat} {x : α} {y : β}, Paired R xs ys → xs[i]? = some x → ys[i]? = some y → R x y
  | _, _, i, _, _, .nil, h, _ => by simp at h
  | _, _, 0, _, _, .cons a _, h, g => by
    have h := Option.some.inj h
    have g := Option.some.inj g
    rw [← h, ← g]; exact a
  | _, _, i + 1, _, _, .cons _ b, h, g => paired_get2 b (by simpa using h) (by simpa using g)
def scanD (c m : Nat) : Nat → List PyData → Option (Int × List Int)
  | _, [] => none
  | i, .list ds :: r => match firstD c m ds with
    | some p => some ((i : Int), p)
    | none => scanD c m (i + 1) r
  | i, _ :: _ => some ((i : Int), [])
def chkD (c : Nat) : PyData → Option (Int × List Int)
  | .list bs => if (decide (1 ≤ bs.length) && decide (bs.length ≤ 3)) = true then scanD c bs.length 0 bs else some (-1, [])
  | _ => some (-1, [])
section
variable {P : Program} {w : World} {K : PySem.W.Frag} {mg : Str → Option Value} {base : Heap} {σ : L2.St} {H H' : Hp}
/-- data, or a dict -/
def ItemV (K : PySem.W.Frag) (ok : Str → Prop) (H : Hp) (v : V) (d : PyData) : Prop := (∃ n, Dp K H v d ∧ fit d n = true ∧ allW ok d) ∨ (d = .dict [] ∧ ∃ a, v = .ref a ∧ H a = some (.dK []))
theorem item_ex {ok : Str → Prop} {v : V} {d : PyData} (e : Ex H H') (h : ItemV K ok H v d) : ItemV K ok H' v d := by
  rcases h with ⟨n, a, b, c⟩ | ⟨a, x, b, c⟩
  · exact .inl ⟨n, dp_ex e _ _ a, b, c⟩
  · exact .inr ⟨a, x, b, e _ _ c⟩
theorem kd_list : kitB "dict" "list" = some false := by
  rw [(kit_all "dict" (by simp)).2.2.2.1]
  decide +kernel
theorem ev_itL {te : TE} {ok : Str → Prop} {v : V} {d : PyData} (hv : ItemV K ok H v d) (h : Ev te σ H v) : Ev (tCB (rIsi K) (tCons te (tCons (tC (.ty "list")) tNil))) σ H (.bl (isa d "list")) := by
  rcases hv with ⟨n, hd, _⟩ | ⟨rfl, a, rfl, ha⟩
  · exact ev_isi hd h (kitB_isa d).2.2.2.1
  · rw [isa_list]
    exact ev_cb (ea_cons h (ea_cons ev_c ea_nil)) fun H1 e Q q => ⟨.ref a, .ty "list", _, _, false, rfl, .ty "list", .base (.dK (e _ _ ha)), kit_ty kd_list, q H1 (Ex.refl H1)⟩
/-- a list of such things, or such a thing that is no list -/
def BodyV (K : PySem.W.Frag) (ok : Str → Prop) (H : Hp) (v : V) (d : PyData) : Prop := (∃ a xs ds, v = .ref a ∧ d = .list ds ∧ SqL K H a xs ∧ Paired (ItemV K ok H) xs ds ∧ ds.length ≤ 10000) ∨ (isa d "list" = false ∧ ItemV K ok H v d)
theorem raise_nb {C : Addr} {i : Int} {t : Addr} {p : List Int} {Q : XK} (ht : SqT K H t (p.map V.int)) (hp : p.length ≤ 1000) (k : ∀ d T H', Ex H H' → H d = none → H' d = some (.xd [("path", .ref T), ("procedure", .int i)]) → H' T = some (.tup (p.map V.int)) → Q (.ref C) (some d) H') :
    [V.int i, V.ref t].length ≤ 1000 ∧ ∀ a, H a = none → spNB K C (.ref a :: ([V.int i, V.ref t] ++ [])) (upd H a (exo a C none)) (fun v H2 => v = .non ∧ ∃ (d : Addr) (fs : List (Str × V)), H2 a = some (exo a C (some d)) ∧ H2 d = some (exd d fs) ∧ H d = none ∧ Q (.ref C) (some d) (upd (L2.del H2 a) d (.xd fs))) (fun _ _ _ => False) :=
  ⟨by show 2 ≤ 1000; decide, fun a ha => ⟨a, i, t, p, rfl, upd_same, ex_t (Ex.new ha) ht, hp, fun dx T H' o ha' hd' hdx hT nTa => by
    have nda : dx ≠ a := fun z => by rw [z, upd_same] at hdx; cases hdx
    have hdx0 : H dx = none := by rw [upd_ne nda] at hdx; exact hdx
    have nTd : T ≠ dx := fun z => by rw [z, hd'] at hT; exact exd_tup (Option.some.inj hT)
    refine ⟨rfl, dx, _, ha', hd', hdx0, k dx T _ (fun b u hb => ?_) hdx0 upd_same (by rw [upd_ne nTd, del_ne nTa]; exact hT)⟩
    have nb : b ≠ a := fun z => by rw [z, ha] at hb; cases hb
    have nd : b ≠ dx := fun z => by rw [z, hdx0] at hb; cases hb
    rw [upd_ne nd, del_ne nb]
    exact o _ _ nb (by rw [upd_ne nb]; exact hb)⟩⟩
theorem sql_ty {a : Addr} {xs : List V} (h : SqL K H a xs) : TyX K H (.ref a) (.type "list") := by
  rcases h with (s | ⟨o, s⟩) | ⟨o, its, n, l, c, _⟩
  · exact .base (.lst s)
  · exact .base (.frz s)
  · exact .kList l c
theorem mk_nb {C : Addr} {i : Int} {p : List Int} {t1 t2 : TE} {Q : XK} (h1 : Ev t1 σ H (.int i)) (h2 : EvP t2 σ H fun v H2 => ∃ t, v = .ref t ∧ SqT K H2 t (p.map V.int)) (hp : p.length ≤ 1000) (k : ∀ d T H', Ex H H' → H d = none → H' d = some (.xd [("path", .ref T), ("procedure", .int i)]) → H' T = some (.tup (p.map V.int)) → Q (.ref C) (some d) H') :
    tMkO C (spNB K C) [] (tCons t1 (tCons t2 tNil)) σ H Q := by
  unfold tMkO
  refine h1 H (Ex.refl _) _ fun H2 e2 => ?_
  refine h2 H2 e2 _ fun v H3 e3 ⟨t, hv, ht⟩ => ?_
  subst hv
  exact raise_nb ht hp fun d T H4 e4 hd hx hT => k d T H4 ((e2.trans e3).trans e4) (fresh_back (e2.trans e3) hd) hx hT
theorem ep_unit : EvP (tTup tNil) σ H fun v H2 => ∃ t, v = .ref t ∧ SqT K H2 t (([] : List Int).map V.int) := fun H1 e Q q => eu_tup ea_nil (by decide) H1 e _ fun T H2 _ e2 hT => q _ _ e2 ⟨T, rfl, st_of hT⟩
theorem ev_isL {te : TE} {a : Addr} {xs : List V} (hs : SqL K H a xs) (h : Ev te σ H (.ref a)) : Ev (tCB (rIsi K) (tCons te (tCons (tC (.ty "list")) tNil))) σ H (.bl true) :=
  ev_cb (ea_cons h (ea_cons ev_c ea_nil)) fun H1 e Q q => ⟨.ref a, .ty "list", _, _, true, rfl, .ty "list", sql_ty (ex_l e hs), kit_ty (by rw [(kit_all "list" (by simp)).2.2.2.1]; decide +kernel), q H1 (Ex.refl H1)⟩
theorem scan_item {c m i : Nat} {d : PyData} {r : List PyData} : (∃ ds, d = .list ds ∧ (∀ p, firstD c m ds = some p → scanD c m i (d :: r) = some ((i : Int), p)) ∧ (firstD c m ds = none → scanD c m i (d :: r) = scanD c m (i + 1) r)) ∨ (isa d "list" = false ∧ scanD c m i (d :: r) = some ((i : Int), [])) := by
  rw [isa_list]
  cases d with
  | list ds => exact .inl ⟨ds, rfl, fun p h => by rw [scanD, h], fun h => by rw [scanD, h]⟩
  | _ => exact .inr ⟨rfl, rfl⟩
def spChkE (K : PySem.W.Frag) (ok : Str → Prop) (C : Addr) : Sp := fun vs H Q E => ∃ (v : V) (d : PyData) (c : Nat), vs = [.int (c : Int), v] ∧ BodyV K ok H v d ∧ (∀ H', Ex H H' → chkD c d = none → Q .non H') ∧
  ∀ i p d' T H', Ex H H' → chkD c d = some (i, p) → H d' = none → H' d' = some (.xd [("path", .ref T), ("procedure", .int i)]) → H' T = some (.tup (p.map V.int)) → E (.ref C) (some d') H'
theorem ok_check_all {C f fN : Addr} {fd fdN : FuncData} {k : Nat} {ok : Str → Prop} {tk : Tok} (F : Fun K "check_bodies" "check_bodies" scheck_bodies f fd) (z_isinstance : mg "isinstance" = none) (z_list : mg "list" = none) (z_len : mg "len" = none) (z_enumerate : mg "enumerate" = none) (c_MOST_PROCEDURES : mg "MOST_PROCEDURES" = some (.int 3 tk))
    (TN : OexC K C) (iN : PySem.W.findIn K (.ref C) "__init__" = some (some (.ref fN))) (tN : PySem.W.typeIn K (.ref fN) = some (.type "function")) (FN : FnOk P w K mg base CX0 16 fN fdN ["self", "procedure", "path"] (spNB K C)) (bN : Binds K fdN ["self", "procedure", "path"] []) (gN : mg "NoBook" = some (.ref C))
    (Cfirst_fault : Cal P w K mg base 7 "first_fault" (spFF K ok) []) (hk : 17 ≤ k) : FnOk P w K mg base (L2.CX P w) (k + 1) f fd ["cells", "bodies"] (spChkE K ok C) := by
  have sc := sccheck_bodies
  refine F.okX sc (fun vs H Q E h => ?_) (fun cdv A outer s H vs Q E hr h => ?_)
  · obtain ⟨v, d, c, rfl, _⟩ := h
    rfl
  · obtain ⟨v, d, c, rfl, hv, q1, q2⟩ := h
    refine ⟨_, (pss_cons (ps_if (PW.pt (pw_or (pt_not (pt_val (pe_callB call_isi (by rfl) z_isinstance (by decide +kernel) (pa_cons (pv 1) (pa_cons (pe_bltn (v := .ty "list") (by rfl) z_list (by decide +kernel) rfl) pa_nil))))) (pw_or1 (pt_not (pt_chain op_le op_le pe_int (pe_callB call_len_seq (by rfl) z_len (by decide +kernel) (pa_cons (pv 1) pa_nil)) (pe_glob (v := .int 3) (by rfl) c_MOST_PROCEDURES ⟨_, rfl⟩))))))
      (pss_one (ps_raise rfl (takes_of rfl rfl rfl rfl) (pmk_oex TN iN tN FN (hr.mono (by omega)) bN .nil pass0 (by rfl) gN (pa_cons (pe_un un_neg pe_int) (pa_cons (pe_tup pa_nil) pa_nil)))))
      pss_nil)
      (pss_one (ps_for (passes_of rfl) rfl (pi_enum (by rfl) z_enumerate (pa_cons (pv 1) pa_nil)) (pg_tup (by rfl) (pgs_cons (pg_name (i := 2) sc.nd rfl (by first | exact Or.inl rfl | exact Or.inr rfl)) (pgs_cons (pg_name (i := 3) sc.nd rfl (by first | exact Or.inl rfl | exact Or.inr rfl)) pgs_nil)))
      (pss_cons (ps_if (pt_not (pt_val (pe_callB call_isi (by rfl) z_isinstance (by decide +kernel) (pa_cons (pv 3) (pa_cons (pe_bltn (v := .ty "list") (by rfl) z_list (by decide +kernel) rfl) pa_nil)))))
      (pss_one (ps_raise rfl (takes_of rfl rfl rfl rfl) (pmk_oex TN iN tN FN (hr.mono (by omega)) bN .nil pass0 (by rfl) gN (pa_cons (pv 2) (pa_cons (pe_tup pa_nil) pa_nil)))))
      pss_nil)
      (pss_cons (ps_set (i := 4) sc.nd rfl (by first | exact Or.inl rfl | exact Or.inr rfl) (pe_c Cfirst_fault hr (by omega) (by rfl) (pa_cons (pv 3) (pa_cons (pv 0) (pa_cons (pe_callB call_len_seq (by rfl) z_len (by decide +kernel) (pa_cons (pv 1) pa_nil)) pa_nil)))))
      (pss_one (ps_if (pt_cmpR op_notN (pv 4) pe_non (nomark _))
      (pss_one (ps_raise rfl (takes_of rfl rfl rfl rfl) (pmk_oex TN iN tN FN (hr.mono (by omega)) bN .nil pass0 (by rfl) gN (pa_cons (pv 2) (pa_cons (pv 4) pa_nil)))))
      pss_nil))))))), ?_⟩
    rcases hv with ⟨b, xs, bs, rfl, rfl, hb, hx, hl⟩ | ⟨hnl, hv⟩
    · have lxs : xs.length = bs.length := Paired.length hx
      cases hlen : (decide (1 ≤ bs.length) && decide (bs.length ≤ 3)) with
      | false =>
        have hz : chkD c (.list bs) = some (-1, []) := by rw [chkD, hlen]; rfl
        refine q_when (b := true) (et_or (a := false) (b := true) (et_is (et_not (et_B (ev_isL hb (ev_var rfl)))) rfl) fun _ => et_is (et_not (et_test (ev_chain (b := decide ((xs.length : Int) ≤ 3)) ev_c (ev_lenS (ev_var rfl) (.inl hb)) rv_I0 fun _ => ⟨ev_c, rv_I0⟩))) ?hl) (fun _ H1 e1 => ?_) fun h => (nomatch h)
        case hl =>
          rw [← Bool.not_false, ← hlen, lxs]
          congr 2
          · rw [decide_eq_decide]; omega
          · rw [decide_eq_decide]; omega
        exact mk_nb (i := -1) (p := []) (ev_un ev_c ru_neg) ep_unit (by decide) fun d' T' H4 e4 hd' hx' hT' => q2 _ _ d' T' H4 (e1.trans e4) hz (fresh_back e1 hd') hx' hT'
      | true =>
        have hz : chkD c (.list bs) = scanD c bs.length 0 bs := by rw [chkD, hlen]; rfl
        rw [hz] at q1 q2
        obtain ⟨l1, l3⟩ := Bool.and_eq_true_iff.mp hlen
        have l1 := of_decide_eq_true l1
        have l3 := of_decide_eq_true l3
        refine q_when (b := false) (et_or (a := false) (b := false) (et_is (et_not (et_B (ev_isL hb (ev_var rfl)))) rfl) fun _ => et_is (et_not (et_test (ev_chain (b := decide ((xs.length : Int) ≤ 3)) ev_c (ev_lenS (ev_var rfl) (.inl hb)) rv_I0 fun _ => ⟨ev_c, rv_I0⟩))) ?hl) (fun h => (nomatch h)) fun _ H1 e1 => ?_
        case hl =>
          rw [decide_eq_true (by omega : (1 : Int) ≤ (xs.length : Int)), decide_eq_true (by omega : (xs.length : Int) ≤ 3)]; rfl
        refine ⟨.ref b, rfl, b, xs, rfl, ex_l e1 hb, ?_⟩
        refine for_it walk_enum (fun i σ' H' => ∃ x2 x3 x4 : Option V, σ' = [some (.int (c : Int)), some (.ref b), x2, x3, x4] ∧ Ex H H' ∧ scanD c bs.length 0 bs = scanD c bs.length i (bs.drop i)) ⟨none, none, none, rfl, e1, by rw [List.drop_zero]⟩ (fun i σ' H' _ ⟨_, _, _, _, e, _⟩ => ex_l e hb) (fun i x σ' H' H'' hi hP y => ?_) (fun σ' H' hP => ?_)
        · obtain ⟨x2, x3, x4, rfl, e2, hu⟩ := hP
          obtain ⟨T, x, y, rfl, nT, rfl, hx', hy⟩ := y
          cases hx'
          have eT := e2.trans (Ex.new (o := .tup [.int (i : Nat), y]) nT)
          have hib : i < bs.length := by omega
          have hgi := List.getElem?_eq_getElem hib
          have hdr := List.drop_eq_getElem_cons hib
          generalize bs[i] = d at hgi hdr
          rw [hdr] at hu
          have dy := item_ex eT (paired_get2 hx hy hgi)
          refine ⟨T, _, rfl, st_of upd_same, rfl, _, _, rfl, _, _, rfl, rfl, ?_⟩
          dsimp only
          rcases scan_item (c := c) (m := bs.length) (i := i) (d := d) (r := bs.drop (i + 1)) with ⟨ds, rfl, s1, s2⟩ | ⟨hnl, s1⟩
          · obtain ⟨n, dyy, fds, hwd⟩ : ∃ n, Dp K _ y (.list ds) ∧ fit (.list ds) n = true ∧ allW ok (.list ds) := by
              rcases dy with h | ⟨h, _⟩
              · exact h
              · cases h
            rw [allW] at hwd
            refine q_when (b := false) (et_is (et_not (et_B (ev_isi dyy (ev_var rfl) (kitB_isa _).2.2.2.1))) (by rw [isa_listD rfl]; rfl)) (fun h => (nomatch h)) fun _ H3 e3 => ?_
            have e23 := eT.trans e3
            cases hfd : firstD c bs.length ds with
            | none =>
              refine q_asg (ev_spFF0 (m := bs.length) (ev_var rfl) (ev_var rfl) (ev_is (ev_lenS (ev_var rfl) (.inl (ex_l e23 hb))) (by rw [lxs])) (dp_ex e3 _ _ dyy) fds (fun e he => allWs_mem hwd he) hfd) fun H4 e4 => ?_
              refine s_when (b := false) (et_is (et_test (ev_op (z := .bl (!decide (V.non = V.non))) (ev_var rfl) ev_c (rv_val fun _ _ _ q => ⟨rfl, q⟩))) (by simp)) (fun h => (nomatch h)) fun _ H5 e5 => ?_
              exact ⟨_, _, _, rfl, (e23.trans e4).trans e5, hu.trans (s2 hfd)⟩
            | some p =>
              refine q_run ?_
              refine ⟨y, rfl, .int (c : Int), rfl, .ref b, rfl, ?_⟩
              refine ⟨b, xs, rfl, .inl (ex_l e23 hb), ?_⟩
              refine ⟨y, ds, c, bs.length, n, by rw [lxs]; rfl, dp_ex e3 _ _ dyy, fds, fun e he => allWs_mem hwd he, fun H' _ h => (by rw [hfd] at h; cases h), fun p' t H4 e4 h ht => ?_⟩
              rw [hfd] at h
              cases h
              have e04 := e23.trans e4
              refine s_when (b := true) (et_is (et_test (ev_op (z := .bl (!decide (V.ref t = V.non))) (ev_var rfl) ev_c (rv_val fun _ _ _ q => ⟨rfl, q⟩))) (by simp)) (fun _ H5 e5 => ?_) fun h => (nomatch h)
              exact mk_nb (i := (i : Int)) (p := p) (ev_var rfl) (fun H1 e Q q => ev_var rfl H1 e Q fun H2 e2 => q _ _ e2 ⟨t, rfl, ex_t (e5.trans (e.trans e2)) ht⟩) (by have := first_len hfd; omega) fun d' T' H6 e6 hd' hx' hT' => q2 _ _ d' T' H6 ((e04.trans e5).trans e6) (hu.trans (s1 p hfd)) (fresh_back (e04.trans e5) hd') hx' hT'
          · refine q_when (b := true) (et_is (et_not (et_B (ev_itL dy (ev_var rfl)))) (by rw [hnl]; rfl)) (fun _ H3 e3 => ?_) fun h => (nomatch h)
            exact mk_nb (i := (i : Int)) (p := []) (ev_var rfl) ep_unit (by decide) fun d' T' H6 e6 hd' hx' hT' => q2 _ _ d' T' H6 ((eT.trans e3).trans e6) (hu.trans s1) (fresh_back (eT.trans e3) hd') hx' hT'
        · obtain ⟨x2, x3, x4, rfl, e2, hu⟩ := hP
          rw [List.drop_of_length_le (by omega), scanD] at hu
          exact q1 _ e2 hu
    · have hz : chkD c d = some (-1, []) := by rw [isa_list] at hnl; cases d <;> first | rfl | cases hnl
      refine q_when (b := true) (et_or (a := true) (b := false) (et_is (et_not (et_B (ev_itL hv (ev_var rfl)))) (by rw [hnl]; rfl)) fun h => (nomatch h)) (fun _ H1 e1 => ?_) fun h => (nomatch h)
      exact mk_nb (i := -1) (p := []) (ev_un ev_c ru_neg) ep_unit (by decide) fun d' T' H4 e4 hd' hx' hT' => q2 _ _ d' T' H4 (e1.trans e4) hz (fresh_back e1 hd') hx' hT'
end
/-! ### raise X() -/
section
variable {X : Cx}
theorem pmk_own0 {C : Addr} {bmB : List Value} {B newId initId : String} {x : Str} {p pos : Pos} (F : ExcBaseFacts B newId initId bmB) (q : PySem.W.excIn X.K C bmB newId = true) (gC : X.mg x = some (.ref C))
    (kC : PySem.W.keepIn X.K (.ref C) = true) (r : Raises X (.ref C)) (hg : Gl X x) (hdb : (x == ("__debug__" : Str)) = false := by decide) : PMk X (.Call (.Name x p) [] [] pos) (fun _ H Q => Q (.ref C) none H) := by
  intro pins s σ H Q I h
  refine wpAny_Call_Name_kw (ld_glob I hg gC ?_ hdb)
  refine PySem.W.callWith_K0 I.kIn kC ?_
  obtain ⟨bm, N, nm, qn, bs, hdct, sn, sub, ab, col, dd, k0, k1, k2, k3, k5, mN, hC, hN, hni, T⟩ := exc_obj I.kIn q
  refine wpAny_call_exc_subT F T hC hN hni (fun h' e hm => ?_) (Nat.zero_le _)
  exact mk_of I hm r h (I.hok.gone hm.new)
end
/-! ### Book(..), errors and all -/
section
variable {X : Cx} {CX : CXT} {C f : Addr} {fd : FuncData} {ps : List Str} {sp : Sp} {E : L2.St → XK} {k : Nat} {x : Str} {p pos : Pos} {e : Expr} {es : List Expr} {t : TA}
/-- making an object where what goes out depends on the slots -/
def tMakeS (C : Addr) (sp : Sp) (E : L2.St → XK) (t : TA) : TE := fun σ H Q => tMake C sp [] (E σ) t σ H Q
theorem made_at {pins : List (Addr × Obj)} {σ : L2.St} {H : Hp} {s : Shared} {Q : VK} {us : List Value} {vs : List V} (M : Mk X.K C f) (F : FnOk X.prog X.w X.K X.mg X.base CX k f fd ps sp) (hr : Room (k + 1) X.A) (hb : Binds X.K fd ps []) (hx : PassesAt CX X σ (E σ)) (I : Inv X pins σ H s) (r : Vals vs us)
    (h : ∀ x dx, H x = none → H dx = none → dx ≠ x → sp (.ref x :: (vs ++ [])) (upd (upd H dx (.own x)) x (.ins C dx [])) (fun v H2 => v = .non ∧ Q (.ref x) H2) (E σ)) : wpAny (model X.prog X.w) X.A (call (.ref C) us) (EP X pins σ Q) X.xe s := by
  have n1 : H (s.heap.objs.size + 1) = none := I.hok.fresh (Nat.le_succ _)
  have n2 : H s.heap.objs.size = none := I.hok.fresh (Nat.le_refl _)
  have hq := h _ _ n1 n2 (Nat.ne_of_lt (Nat.lt_succ_self _))
  have J := Inv.made (C := C) I
  have rr : Vals (V.ref (s.heap.objs.size + 1) :: (vs ++ [])) (Value.ref (s.heap.objs.size + 1) :: (us ++ [])) := .cons rfl (r.append .nil)
  have ln := (rr.length.symm.trans (F.len _ _ _ _ hq))
  have body := F.run _ X.stack _ _ ⟨Value.ref (s.heap.objs.size + 1) :: us, []⟩ _ _ _ (E σ) (hr.make C us []) (J.env0.make C us []) (hb _ (Value.ref (s.heap.objs.size + 1) :: us) J.kIn ln) rr hq
  refine wpAny_call (make_map (f := f) I.kIn M.makes M.init (beq_iff_eq.mp M.fn) (codeAny_mono body fun out s' ho => ?_))
  match out, ho with
  | .error er, ho => exact hx pins _ _ er s' J ho
  | .ok (.ret u), ho =>
    obtain ⟨v, H', J', rv, ev, q⟩ := J.after ho
    subst ev
    exact ⟨rv, V.ref (s.heap.objs.size + 1), H', J', rfl, q⟩
theorem pe_makeS (M : Mk X.K C f) (F : FnOk X.prog X.w X.K X.mg X.base CX k f fd ps sp) (hr : Room (k + 1) X.A) (hg : Gl X x) (hm : X.mg x = some (.ref C)) (hb : Binds X.K fd ps []) (hx : ∀ σ, PassesAt CX X σ (E σ)) (ha : PA X (e :: es) t)
    (hdb : (x == ("__debug__" : Str)) = false := by decide) (he : starEach (e :: es) X.env = (false, eval e X.env) :: starEach es X.env := by rfl) (hpl : (backTo pos (starEach es X.env)).any (·.1) = false := by rfl) : PE X (.Call (.Name x p) (e :: es) [] pos) (tMakeS C sp E t) :=
  ⟨fun pins s σ H Q I h => wpAny_Call_Name_kw (ld_glob I hg hm (PySem.W.callWith_K (h₀ := X.base) I.ok.mod.kin M.kp (thn (ha.run pos pins s σ H _ I h) fun us s1 ⟨vs, H1, I1, r, q⟩ => ⟨I1.kIn, made_at M F hr hb (hx σ) I1 r q⟩) he hpl) hdb)⟩
end
section
variable {P : Program} {w : World} {K : PySem.W.Frag} {mg : Str → Option Value} {base : Heap} {σ : L2.St} {H H' : Hp}
theorem dpa_of_items {ok : Str → Prop} : ∀ {xs : List V} {ds : List PyData}, Paired (ItemV K ok H) xs ds → (∀ d ∈ ds, isa d "list" = true) → DpAll K H xs ds ∧ (∀ d ∈ ds, ∃ n, fit d n = true)
  | _, _, .nil, _ => ⟨.nil, fun _ h => (nomatch h)⟩
  | _, d :: r, .cons a b, h => by
    obtain ⟨h1, h2⟩ := dpa_of_items b fun d hd => h d (List.mem_cons_of_mem _ hd)
    rcases a with ⟨n, g, f, _⟩ | ⟨rfl, _⟩
    · refine ⟨.cons g h1, fun e he => ?_⟩
      rcases List.mem_cons.mp he with rfl | he
      · exact ⟨n, f⟩
      · exact h2 e he
    · have := h _ (List.mem_cons_self ..)
      rw [isa_list] at this; cases this
theorem scan_lists {c m : Nat} : ∀ (bs : List PyData) (i : Nat), scanD c m i bs = none → ∀ d ∈ bs, isa d "list" = true
  | [], _, _, d, h => by cases h
  | e :: r, i, hz, d, hd => by
    rcases scan_item (c := c) (m := m) (i := i) (d := e) (r := r) with ⟨ds, rfl, s1, s2⟩ | ⟨_, s1⟩
    · cases hf : firstD c m ds with
      | some p => rw [s1 p hf] at hz; cases hz
      | none =>
        rw [s2 hf] at hz
        rcases List.mem_cons.mp hd with rfl | hd
        · rw [isa_list]
        · exact scan_lists r (i + 1) hz d hd
    · rw [s1] at hz; cases hz
theorem body_ex {ok : Str → Prop} {v : V} {d : PyData} (e : Ex H H') (h : BodyV K ok H v d) : BodyV K ok H' v d := by
  rcases h with ⟨b, xs, bs, h1, h2, hb, hx, hl⟩ | ⟨h1, h2⟩
  · exact .inl ⟨b, xs, bs, h1, h2, ex_l e hb, Paired.mapP hx fun _ _ h => item_ex e h, hl⟩
  · exact .inr ⟨h1, item_ex e h2⟩
/-- without a fault the bodies are data -/
theorem body_dp {ok : Str → Prop} {v : V} {d : PyData} {c : Nat} (h : BodyV K ok H v d) (hz : chkD c d = none) : Dp K H v d := by
  rcases h with ⟨b, xs, bs, rfl, rfl, hb, hx, hl⟩ | ⟨h1, h2⟩
  · rw [chkD] at hz
    split at hz
    · exact .lst hb (dpa_of_items hx (scan_lists bs 0 hz)).1
    · cases hz
  · rw [isa_list] at h1
    cases d <;> first | (simp [chkD] at hz; done) | cases h1
def spInitE (K : PySem.W.Frag) (ok : Str → Prop) (C CC CB : Addr) : Sp := fun vs H Q E => ∃ (x dx : Addr) (vc v : V) (dc db : PyData) (Hb : Hp), vs = [.ref x, vc, v] ∧ H x = some (.ins C dx []) ∧ Hb x = none ∧ Ex Hb H ∧ Dp K H vc dc ∧ BodyV K ok Hb v db ∧ (∀ c : Nat, c ≤ 3 → chkD c db = none → fit db 14 = true) ∧
  (btw 1 3 dc = false → ∀ H', Ex H H' → E (.ref CC) none H') ∧
  ∀ c : Nat, dc = .int (c : Int) → 1 ≤ c → c ≤ 3 → (∀ i p d' T H', Ex H H' → chkD c db = some (i, p) → H d' = none → H' d' = some (.xd [("path", .ref T), ("procedure", .int i)]) → H' T = some (.tup (p.map V.int)) → E (.ref CB) (some d') H') ∧ (chkD c db = none → ∀ H', Ex Hb H' → Q .non H')
theorem ok_init_all {C CC CB f fK : Addr} {fd fdK : FuncData} {k : Nat} {ok : Str → Prop} {tk : Tok} {mC : List Value} (F : Fun K "__init__" "Book.__init__" sBook___init__ f fd) (hc : Cls K C) (n1 : NoAttr K C "_cells") (n2 : NoAttr K C "_bodies") (c_MOST_CELLS : mg "MOST_CELLS" = some (.int 3 tk))
    (xC : PySem.W.excIn K CC mC "ValueError.__new__" = true) (gC : mg "NoCells" = some (.ref CC)) (kC : PySem.W.keepIn K (.ref CC) = true) (bC : PySem.W.subIn K (.ref CC) (.type "BaseException") = some true) (tC : PySem.W.typeIn K (.ref CC) = some (.type "type")) (FC : ExcBaseFacts "ValueError" "ValueError.__new__" "ValueError.__init__" mC)
    (FK : FnOk P w K mg base (L2.CX P w) 18 fK fdK ["cells", "bodies"] (spChkE K ok CB)) (gK : mg "check_bodies" = some (.ref fK)) (kK : PySem.W.keepIn K (.ref fK) = true) (bK : Binds K fdK ["cells", "bodies"] [])
    (Cis_between : Cal P w K mg base 2 "is_between" (spBtw K) []) (Ccopied : Cal P w K mg base 15 "copied" (spCopy K 15) []) (hk : 18 ≤ k) : FnOk P w K mg base (L2.CX P w) (k + 1) f fd ["self", "cells", "bodies"] (spInitE K ok C CC CB) := by
  have sc := scBook___init__
  refine F.okX sc (fun vs H Q E h => ?_) (fun cdv A outer s H vs Q E hr h => ?_)
  · obtain ⟨x, dx, vc, v, dc, db, Hb, rfl, _⟩ := h
    rfl
  · obtain ⟨x, dx, vc, v, dc, db, Hb, rfl, hx, hbx, eb, hdc, hv, hf, qa, qb⟩ := h
    refine ⟨_, (pss_cons (ps_if (pt_not (pt_val (pe_c Cis_between hr (by omega) (by rfl) (pa_cons (pv 1) (pa_cons pe_int (pa_cons (pe_glob (v := .int 3) (by rfl) c_MOST_CELLS ⟨_, rfl⟩) pa_nil))))))
      (pss_one (ps_raise rfl (takes_of rfl rfl rfl rfl) (pmk_own0 FC xC gC kC (raises_own bC tC) rfl)))
      pss_nil)
      (pss_cons (ps_expr (pe_callS FK (hr.mono (by omega)) (by rfl) gK kK bK (passAt (takes_of rfl rfl rfl rfl)) (pa_cons (pv 1) (pa_cons (pv 2) pa_nil))))
      (pss_cons (ps_fld (pv 0) (pv 1) rfl)
      (pss_one (ps_fld (pv 0) (pe_c Ccopied hr (by omega) (by rfl) (pa_cons (pv 2) pa_nil)) rfl))))), ?_⟩
    refine q_when (et_not (et_B (ev_spBtw (ev_var rfl) ev_c ev_c hdc))) (fun hb H1 e1 => ?_) (fun hb H1 e1 => ?_)
    · exact qa (by simpa using hb) H1 e1
    · obtain ⟨c, rfl, c1, c3⟩ : ∃ c : Nat, dc = .int (c : Int) ∧ 1 ≤ c ∧ c ≤ 3 := by
        have hb : btw 1 3 dc = true := by simpa using hb
        cases dc with
        | int j =>
          rw [btw, Bool.and_eq_true] at hb
          have h1 := of_decide_eq_true hb.1
          have h2 := of_decide_eq_true hb.2
          exact ⟨j.toNat, by rw [Int.toNat_of_nonneg (by omega)], by omega, by omega⟩
        | _ => cases hb
      cases hdc
      obtain ⟨qr, qn⟩ := qb c rfl c1 c3
      refine ⟨.int (c : Int), rfl, v, rfl, ?_⟩
      refine ⟨v, db, c, rfl, body_ex (eb.trans e1) hv, fun H2 e2 hz => ?_, fun i p d' T H2 e2 hz hd hxd hT => qr i p d' T H2 (e1.trans e2) hz (fresh_back e1 hd) hxd hT⟩
      have e02 := e1.trans e2
      have eb2 := eb.trans e02
      refine ⟨.int (c : Int), rfl, .ref x, rfl, x, C, dx, [], rfl, e02 _ _ hx, hc, n1, by decide, ?_⟩
      have eb3 := eb2.mut (o := .ins C dx (putF "_cells" (V.int (c : Int)) [])) hbx
      have hx3 : (upd H2 x (.ins C dx (putF "_cells" (V.int (c : Int)) []))) x = some (.ins C dx [("_cells", .int (c : Int))]) := upd_same
      generalize upd H2 x (.ins C dx (putF "_cells" (V.int (c : Int)) [])) = H3 at eb3 hx3 ⊢
      dsimp only
      refine cp_call (n := 15) rfl (ev_var rfl) (body_dp (body_ex eb3 hv) hz) (hf c c3 hz) H3 (Ex.refl _) _ fun v' H4 e4 hq => ?_
      refine ⟨.ref x, rfl, x, C, dx, [("_cells", .int (c : Int))], rfl, e4 _ _ hx3, hc, n2, by show 1 < 1000; decide, ?_⟩
      exact qn hz _ ((eb3.trans e4).mut hbx)
end
/-! ### what is due -/
abbrev s_law_due : Stmt := topS 55
theorem sc_law_due : FnScope ["cells", "bodies", "procedure", "found"] ["cells", "bodies"] (defScope s_law_due) := ⟨rfl, rfl, rfl, by decide +kernel, rfl, by decide +kernel, by decide +kernel⟩
section
variable {P : Program} {w : World} {K : PySem.W.Frag} {mg : Str → Option Value} {base : Heap} {σ : L2.St} {H H' : Hp}
def natD : PyData → Nat
  | .int i => i.toNat
  | _ => 0
def dueD (dc db : PyData) : PyData := if btw 1 3 dc = true then (match chkD (natD dc) db with
  | none => .str "book"
  | some (i, p) => .tuple [.int i, .tuple (p.map PyData.int)]) else .str "cells"
def spDue (K : PySem.W.Frag) (ok : Str → Prop) : Sp := fun vs H Q _ => ∃ (vc v : V) (dc db : PyData), vs = [vc, v] ∧ Dp K H vc dc ∧ BodyV K ok H v db ∧ ∀ v' H', Ex H H' → Dp K H' v' (dueD dc db) → Q v' H'
theorem s_pair {D : Ends} {t1 t2 : TE} {i : Int} {p : List Int} (h1 : Ev t1 σ H (.int i)) (h2 : EvP t2 σ H fun v H2 => ∃ t, v = .ref t ∧ SqT K H2 t (p.map V.int)) (k : ∀ v' H', Ex H H' → Dp K H' v' (.tuple [.int i, .tuple (p.map PyData.int)]) → D.rt v' H') : tRet (tTup (tCons t1 (tCons t2 tNil))) D σ H := by
  refine s_retR ?_
  refine h1 H (Ex.refl _) _ fun H2 e2 => ?_
  refine h2 H2 e2 _ fun v H3 e3 ⟨t, hv, ht⟩ => ?_
  subst hv
  refine ⟨by show 2 ≤ sizeLine; decide, fun T nT => ?_⟩
  exact k _ _ ((e2.trans e3).trans (Ex.new nT)) (.tup (st_of upd_same) (.cons (.int i) (.cons (.tup (ex_t (Ex.new nT) ht) (dpa_ints p)) .nil)))
theorem ok_due {f : Addr} {fd : FuncData} {k : Nat} {ok : Str → Prop} (F : Fun K "_law_due" "_law_due" s_law_due f fd) (z_isinstance : mg "isinstance" = none) (z_list : mg "list" = none) (z_len : mg "len" = none) (z_range : mg "range" = none)
    (C_law_is_integer : Cal P w K mg base 1 "_law_is_integer" (spInt K) []) (C_law_fault : Cal P w K mg base 8 "_law_fault" (spLF K 4) []) (hk : 8 ≤ k) : FnOk P w K mg base CX0 (k + 1) f fd ["cells", "bodies"] (spDue K ok) := by
  have sc := sc_law_due
  refine F.ok sc (fun vs H Q E h => ?_) (fun cdv A outer s H vs Q E hr h => ?_)
  · obtain ⟨vc, v, dc, db, rfl, _⟩ := h
    rfl
  · obtain ⟨vc, v, dc, db, rfl, hdc, hv, q⟩ := h
    refine ⟨_, (pss_cons (ps_if (PW.pt (pw_or (pt_not (pt_val (pe_c C_law_is_integer hr (by omega) (by rfl) (pa_cons (pv 0) pa_nil)))) (pw_or (pt_cmpR op_lt (pv 0) pe_int (nomark _)) (pw_or1 (pt_cmpR op_gt (pv 0) pe_int (nomark _))))))
      (pss_one (ps_ret pe_str))
      pss_nil)
      (pss_cons (ps_if (PW.pt (pw_or (pt_not (pt_val (pe_callB call_isi (by rfl) z_isinstance (by decide +kernel) (pa_cons (pv 1) (pa_cons (pe_bltn (v := .ty "list") (by rfl) z_list (by decide +kernel) rfl) pa_nil))))) (pw_or (pt_cmpR op_lt (pe_callB call_len_seq (by rfl) z_len (by decide +kernel) (pa_cons (pv 1) pa_nil)) pe_int (nomark _)) (pw_or1 (pt_cmpR op_gt (pe_callB call_len_seq (by rfl) z_len (by decide +kernel) (pa_cons (pv 1) pa_nil)) pe_int (nomark _))))))
      (pss_one (ps_ret (pe_tup (pa_cons (pe_un un_neg pe_int) (pa_cons (pe_tup pa_nil) pa_nil)))))
      pss_nil)
      (pss_cons (ps_for PassesOwn.never rfl (pi_range1 (by rfl) z_range (pa_cons (pe_callB call_len_seq (by rfl) z_len (by decide +kernel) (pa_cons (pv 1) pa_nil)) pa_nil)) (pg_name (i := 2) sc.nd rfl (by first | exact Or.inl rfl | exact Or.inr rfl))
      (pss_cons (ps_if (pt_not (pt_val (pe_callB call_isi (by rfl) z_isinstance (by decide +kernel) (pa_cons (pe_ix ix_list (pv 1) (pv 2) (fun _ _ => rfl)) (pa_cons (pe_bltn (v := .ty "list") (by rfl) z_list (by decide +kernel) rfl) pa_nil)))))
      (pss_one (ps_ret (pe_tup (pa_cons (pv 2) (pa_cons (pe_tup pa_nil) pa_nil)))))
      pss_nil)
      (pss_cons (ps_set (i := 3) sc.nd rfl (by first | exact Or.inl rfl | exact Or.inr rfl) (pe_c C_law_fault hr (by omega) (by rfl) (pa_cons (pe_ix ix_list (pv 1) (pv 2) (fun _ _ => rfl)) (pa_cons (pv 0) (pa_cons (pe_callB call_len_seq (by rfl) z_len (by decide +kernel) (pa_cons (pv 1) pa_nil)) (pa_cons pe_int (pa_cons (pe_tup pa_nil) (pa_cons (pe_lst (pa_cons pe_int pa_nil)) pa_nil))))))))
      (pss_one (ps_if (pt_cmpR op_notN (pv 3) pe_non (nomark _))
      (pss_one (ps_ret (pe_tup (pa_cons (pv 2) (pa_cons (pv 3) pa_nil)))))
      pss_nil)))))
      (pss_one (ps_ret pe_str))))), ?_⟩
    unfold dueD at q
    refine q_when (b := !btw 1 3 dc) ?hc (fun hb H1 e1 => ?_) (fun hb H1 e1 => ?_)
    case hc =>
      cases hi : isIntD dc with
      | false => exact et_is (et_or (a := true) (b := false) (et_is (et_not (et_B (ev_spInt (ev_var rfl) hdc))) (by rw [hi]; rfl)) fun h => (nomatch h)) (by rw [btw_no _ _ hi]; rfl)
      | true =>
        obtain ⟨i, rfl, rfl⟩ := isInt_v hdc hi
        refine et_is (et_or (a := false) (et_is (et_not (et_B (ev_spInt (ev_var rfl) hdc))) (by rw [hi]; rfl)) fun _ => et_or (et_test (ev_op (ev_var rfl) ev_c rv_I0)) fun _ => et_test (ev_op (ev_var rfl) ev_c rv_I0)) ?_
        rw [btw, Bool.false_or, Bool.not_and]
        congr 1
        · rw [← decide_not, decide_eq_decide]; omega
        · rw [← decide_not, decide_eq_decide]; omega
    · rw [Bool.not_eq_true'] at hb
      rw [hb, if_neg (by decide)] at q
      exact s_ret ev_c fun H2 e2 => q _ _ (e1.trans e2) (.str _)
    · rw [Bool.not_eq_false'] at hb
      rw [if_pos hb] at q
      obtain ⟨c, rfl⟩ : ∃ c : Nat, dc = .int (c : Int) := by
        cases dc with
        | int j =>
          rw [btw, Bool.and_eq_true] at hb
          have h1 := of_decide_eq_true hb.1
          exact ⟨j.toNat, by rw [Int.toNat_of_nonneg (by omega)]⟩
        | _ => cases hb
      rw [natD, Int.toNat_natCast] at q
      cases hdc
      have hv1 := body_ex e1 hv
      rcases hv1 with ⟨b, xs, bs, rfl, rfl, hbL, hx, hl⟩ | ⟨hnl, hit⟩
      · have lxs : xs.length = bs.length := Paired.length hx
        cases hlen : (decide (1 ≤ bs.length) && decide (bs.length ≤ 3)) with
        | false =>
          have hz : chkD c (.list bs) = some (-1, []) := by rw [chkD, hlen]; rfl
          rw [hz] at q
          refine q_when (b := true) (et_is (et_or (a := false) (et_is (et_not (et_B (ev_isL hbL (ev_var rfl)))) rfl) fun _ => et_or (et_test (ev_op (ev_lenS (ev_var rfl) (.inl hbL)) ev_c rv_I0)) fun _ => et_test (ev_op (ev_lenS (ev_var rfl) (.inl hbL)) ev_c rv_I0)) ?hl) (fun _ H2 e2 => ?_) fun h => (nomatch h)
          case hl =>
            have n : ¬ (1 ≤ bs.length ∧ bs.length ≤ 3) := fun ⟨h1, h2⟩ => by rw [decide_eq_true h1, decide_eq_true h2] at hlen; cases hlen
            rw [Bool.false_or, Bool.or_eq_true, decide_eq_true_eq, decide_eq_true_eq]; omega
          exact s_pair (K := K) (p := []) (ev_un ev_c ru_neg) ep_unit fun v' H3 e3 hd => q _ _ ((e1.trans e2).trans e3) hd
        | true =>
          have hz : chkD c (.list bs) = scanD c bs.length 0 bs := by rw [chkD, hlen]; rfl
          rw [hz] at q
          obtain ⟨l1, l3⟩ := Bool.and_eq_true_iff.mp hlen
          have l1 := of_decide_eq_true l1
          have l3 := of_decide_eq_true l3
          refine q_when (b := false) (et_is (et_or (a := false) (et_is (et_not (et_B (ev_isL hbL (ev_var rfl)))) rfl) fun _ => et_or (et_test (ev_op (ev_lenS (ev_var rfl) (.inl hbL)) ev_c rv_I0)) fun _ => et_test (ev_op (ev_lenS (ev_var rfl) (.inl hbL)) ev_c rv_I0)) ?hl) (fun h => (nomatch h)) fun _ H2 e2 => ?_
          case hl =>
            rw [decide_eq_false (by omega : ¬ (xs.length : Int) < 1), decide_eq_false (by omega : ¬ (3 : Int) < (xs.length : Int))]; rfl
          refine q_forR1 (n := (xs.length : Int)) (ea_cons (ev_lenS (ev_var rfl) (.inl (ex_l e2 hbL))) ea_nil) ⟨by omega, by omega⟩
            (fun i σ' H' => ∃ x2 x3 : Option V, σ' = [some (.int (c : Int)), some (.ref b), x2, x3] ∧ Ex H1 H' ∧ scanD c bs.length 0 bs = scanD c bs.length i (bs.drop i)) (fun H3 e3 => ⟨none, none, rfl, e2.trans e3, by rw [List.drop_zero]⟩) (fun i σ' H3 hi hP => ?_) (fun σ' H3 hP => ?_)
          · obtain ⟨x2, x3, rfl, e3, hu⟩ := hP
            have hib : i < bs.length := by omega
            have hgi := List.getElem?_eq_getElem hib
            have hdr := List.drop_eq_getElem_cons hib
            obtain ⟨y, hy⟩ : ∃ y, xs[i]? = some y := ⟨_, List.getElem?_eq_getElem (by omega)⟩
            generalize bs[i] = d at hgi hdr
            rw [hdr] at hu
            rw [hu] at q
            have dy := item_ex e3 (paired_get2 hx hy hgi)
            have hb3 := ex_l e3 hbL
            rcases scan_item (c := c) (m := bs.length) (i := i) (d := d) (r := bs.drop (i + 1)) with ⟨ds, rfl, s1, s2⟩ | ⟨hnl, s1⟩
            · obtain ⟨n, dyy, fds, _⟩ : ∃ n, Dp K H3 y (.list ds) ∧ fit (.list ds) n = true ∧ allW ok (.list ds) := by
                rcases dy with h | ⟨h, _⟩
                · exact h
                · cases h
              refine q_when (b := false) (et_is (et_not (et_B (ev_isi dyy (ev_op (ev_var rfl) (ev_var rfl) (rv_ixL hb3 (atI_nat hy))) (kitB_isa _).2.2.2.1))) (by rw [isa_listD rfl]; rfl)) (fun h => (nomatch h)) fun _ H4 e4 => ?_
              have e14 := e3.trans e4
              refine q_run ?_
              refine ⟨.ref b, rfl, .int (i : Int), rfl, b, xs, (i : Int), y, rfl, rfl, ex_l e14 hbL, atI_nat hy, .int (c : Int), rfl, .ref b, rfl, b, xs, rfl,   .inl (ex_l e14 hbL), ?_⟩
              refine ⟨by show 0 ≤ sizeLine; decide, fun T nT => ⟨by show 1 ≤ sizeLine; decide, fun M nM => ?_⟩⟩
              have eT := Ex.new (o := .tup []) nT
              have eM := Ex.new (o := .lst [.int 0]) nM
              have hn4 : H4 M = none := fresh_back eT nM
              have nTM : T ≠ M := fun z => by rw [← z, upd_same] at nM; cases nM
              refine ⟨y, ds, c, bs.length, 0, n, 0, T, M, [], H4, by rw [lxs]; rfl, rfl, by decide, upd_same, hn4, eT.trans eM, dp_ex e4 _ _ dyy, fds, st_of (by rw [upd_ne nTM]; exact upd_same), rfl, by decide, fun wv H5 o5 h5 fv => ?_⟩
              rw [lf_first] at fv
              have e45 : Ex H4 H5 := ex_oth (eT.trans eM) hn4 o5
              have e05 := e1.trans (e14.trans e45)
              cases hfd : firstD c bs.length ds with
              | none =>
                rw [hfd] at fv
                have fv : wv = .non := fv
                subst fv
                refine s_when (b := false) (et_is (et_test (ev_op (ev_var rfl) ev_c (rv_val fun _ _ _ q => ⟨rfl, q⟩))) (by rfl)) (fun h => (nomatch h)) fun _ H6 e6 => ?_
                exact ⟨_, _, rfl, (e14.trans e45).trans e6, hu.trans (s2 hfd)⟩
              | some p =>
                rw [hfd] at fv
                obtain ⟨t, rfl, ht⟩ := fv
                rw [s1 p hfd] at q
                refine s_when (b := true) (et_is (et_test (ev_op (ev_var rfl) ev_c (rv_val fun _ _ _ q => ⟨rfl, q⟩))) (by rfl)) (fun _ H6 e6 => ?_) fun h => (nomatch h)
                exact s_pair (K := K) (p := p) (ev_var rfl) (fun H1 e Q q => ev_var rfl H1 e Q fun H2 e2 => q _ _ e2 ⟨t, rfl, ex_t (e6.trans (e.trans e2)) ht⟩) fun v' H7 e7 hd => q _ _ (e05.trans (e6.trans e7)) hd
            · rw [s1] at q
              refine q_when (b := true) (et_is (et_not (et_B (ev_itL dy (ev_op (ev_var rfl) (ev_var rfl) (rv_ixL hb3 (atI_nat hy)))))) (by rw [hnl]; rfl)) (fun _ H4 e4 => ?_) fun h => (nomatch h)
              exact s_pair (K := K) (p := []) (ev_var rfl) ep_unit fun v' H5 e5 hd => q _ _ (e1.trans (e3.trans (e4.trans e5))) hd
          · obtain ⟨x2, x3, rfl, e3, hu⟩ := hP
            rw [List.drop_of_length_le (by omega), scanD] at hu
            rw [hu] at q
            exact s_ret ev_c fun H4 e4 => q _ _ (e1.trans (e3.trans e4)) (.str _)
      · have hz : chkD c db = some (-1, []) := by rw [isa_list] at hnl; cases db <;> first | rfl | cases hnl
        rw [hz] at q
        refine q_when (b := true) (et_or (a := true) (b := false) (et_is (et_not (et_B (ev_itL hit (ev_var rfl)))) (by rw [hnl]; rfl)) fun h => (nomatch h)) (fun _ H2 e2 => ?_) fun h => (nomatch h)
        exact s_pair (K := K) (p := []) (ev_un ev_c ru_neg) ep_unit fun v' H3 e3 hd => q _ _ ((e1.trans e2).trans e3) hd
end
/-! ### several except clauses, with and without names -/
section
open Evl
/-- an exception a lies on the ground of X's frame: what stood before the try's body stands -/
def Lain (X : Cx) (pins : List (Addr × Obj)) (σ : L2.St) (H : Hp) (a : Addr) (cls : Value) (d : Option Addr) (s : Shared) : Prop :=
  ∃ (B : Heap) (t : Shared), Inv X pins σ H t ∧ (∀ b o, t.heap.get? b = some o → b ∉ frs X.stack → B.get? b = some o) ∧ t.heap.UpToSlots s.heap ∧ HandSPX.FlyingZ B (X.env :: X.outer) a (Zc cls d) s.heap ∧ s.os = t.os ∧ AllBare s.gens
variable {X : Cx} {pins : List (Addr × Obj)} {σ : L2.St} {H : Hp} {a : Addr} {cls : Value} {d : Option Addr} {s : Shared}
theorem Lain.inv (l : Lain X pins σ H a cls d s) : Inv X pins σ H s := by
  obtain ⟨B, t, J, kept, upto, fly, eos, bare⟩ := l
  exact J.landed kept fly.1 upto eos bare
/-- the object, and that it is no frame -/
theorem Lain.obj (l : Lain X pins σ H a cls d s) (hf : X.env.frame = some X.env.locals) : ∃ oe vs, s.heap.get? a = some oe ∧ Zc cls d oe ∧ oe.data = .fields vs ∧ a ≠ X.env.locals ∧ a ∉ X.fs := by
  obtain ⟨B, t, J, kept, upto, fly, eos, bare⟩ := l
  obtain ⟨oe, vs, e1, e2, e3⟩ := fly.there
  have out : a ∉ frs (X.env :: X.outer) := fun m => by
    obtain ⟨_, o2, e4, no⟩ := fly.2.2.1.mem m
    have e5 := e1.symm.trans e4
    cases e5
    exact no _ e3
  refine ⟨oe, vs, e1, e2, e3, fun z => out ?_, fun m => out ?_⟩
  · exact List.mem_filterMap.mpr ⟨X.env, List.mem_cons_self, by rw [hf, z]⟩
  · obtain ⟨f, m1, m2⟩ := List.mem_filterMap.mp m
    exact List.mem_filterMap.mpr ⟨f, List.mem_cons_of_mem _ m1, m2⟩
theorem Lain.again (l : Lain X pins σ H a cls d s) {A : Around} {E : Value → Shared → Prop} {Q : Unit → Shared → Prop} (k : ∀ h, Lain X pins σ H a cls d { s with heap := h } → Q () { s with heap := h }) : wpAny (model X.prog X.w) A (setFlight (.ref a) none) Q E s := by
  obtain ⟨B, t, J, kept, upto, fly, eos, bare⟩ := l
  exact HandSPX.lands_againZ fly fun h fly2 upto2 => k h ⟨B, t, J, kept, upto.trans upto2, fly2, eos, bare⟩
/-- no clause takes it -/
theorem Lain.out (l : Lain X pins σ H a cls d s) (hs : X.stack = X.env :: X.outer) (hf : X.env.frame = some X.env.locals) {Wout : WX} (tk : Takes X Wout) (na : H a = none) (h : Wout cls d σ H) {D : Ends} : wpAny (model X.prog X.w) X.A (handleBy (.ref a) X.env []) (SP X pins D) X.xe s := by
  obtain ⟨B, t, J, kept, upto, fly, eos, bare⟩ := l
  have parts := fly.2.2.2
  obtain ⟨oe, vs, T, oT, ts, e1, _, e3, e4, _⟩ := parts
  have go : wpAny (model X.prog X.w) X.A (setFlight (.ref a) X.env.frame >>= fun _ => (throw (.ref a) : Sem Flow)) (SP X pins D) X.xe s := by
    refine wpAny_bind ?_
    rw [hf]
    refine HandSPX.setFlight_upZ fly fun h2 held upto2 => wpAny_throw (tk _ _ ⟨a, B, t, pins, σ, H, cls, d, rfl, J, kept, upto.trans upto2, .inr (.inr ?_), na, eos, bare, h⟩)
    rw [hs]
    exact held
  apply wpAny_handleBy_nil
  unfold PySem.passOn
  apply wpAny_bind
  apply wpAny_field e1 e3 e4
  have nn : (Value.ref T == Value.none) = false := rfl
  simp only [nn]
  first | exact go | exact wpAny_bind (wpAny_pure go)
/-- a clause: its class, the place of its name, its suite -/
abbrev Cl := Value × Option Nat × (Addr → Value → Option Addr → TS)
/-- behind the suite the name is gone -/
def forget (i : Nat) (D : Ends) : Ends := { nx := fun σ H => D.nx (σ.set i none) H, rt := D.rt, bk := fun σ H => D.bk (σ.set i none) H, ct := fun σ H => D.ct (σ.set i none) H }
/-- the suite of a clause, the exception a at hand -/
def suiteW (c : Cl) (a : Addr) (cls : Value) (d : Option Addr) (D : Ends) (σ : L2.St) (H : Hp) : Prop :=
  match c.2.1 with
  | none => c.2.2 a cls d D σ H
  | some i => c.2.2 a cls d (forget i D) (σ.set i (some (.ref a))) H
/-- what the clauses wish -/
def wMix (K : PySem.W.Frag) (Wout : WX) (D : Ends) : List Cl → WX
  | [] => Wout
  | c :: r => fun cls d σ H => ∃ b, PySem.W.exmOne K cls c.1 = some b ∧ (b = true → ∀ a, H a = none → suiteW c a cls d D σ H) ∧ (b = false → wMix K Wout D r cls d σ H)
inductive Clauses (X : Cx) : List ExceptHandler → List Cl → Prop
  | nil : Clauses X [] []
  | bare {x : Str} {c : Value} {ts : Addr → Value → Option Addr → TS} {b : Stmt} {bs : List Stmt} {p q : Pos} {hs : List ExceptHandler} {l : List Cl} (hc : Names X x c)
      (hsu : ∀ (a : Addr) (oe : Obj) (cls : Value) (d : Option Addr) (pn : List (Addr × Obj)), Zc cls d oe → (∃ vs, oe.data = .fields vs) → PSs (X.suite a ((a, oe) :: pn)) (b :: bs) (ts a cls d)) (r : Clauses X hs l) :
      Clauses X (.ExceptHandler (some (.Name x p)) none (b :: bs) q :: hs) ((c, none, ts) :: l)
  | named {x n : Str} {c : Value} {i : Nat} {ts : Addr → Value → Option Addr → TS} {b : Stmt} {bs : List Stmt} {p q : Pos} {hs : List ExceptHandler} {l : List Cl} (hN : X.N.Nodup) (hi : X.N[i]? = some n) (hln : X.env.kindOf n = some .local) (hc : Names X x c)
      (hsu : ∀ (a : Addr) (oe : Obj) (cls : Value) (d : Option Addr) (pn : List (Addr × Obj)), Zc cls d oe → (∃ vs, oe.data = .fields vs) → PSs (X.suite a ((a, oe) :: pn)) (b :: bs) (ts a cls d)) (r : Clauses X hs l) :
      Clauses X (.ExceptHandler (some (.Name x p)) (some n) (b :: bs) q :: hs) ((c, some i, ts) :: l)
/-- the clause's test -/
theorem Lain.asked (l : Lain X pins σ H a cls d s) (hf : X.env.frame = some X.env.locals) (na : H a = none) {x : Str} {c : Value} {p : Pos} {b : Bool} (hc : Names X x c) (hb : PySem.W.exmOne X.K cls c = some b) {R : Bool → Shared → Prop} {E E' : Value → Shared → Prop} (k : R b s) :
    wpAny (model X.prog X.w) (X.A.mark (some (.ref a))) (eval (.Name x p) X.env) (fun v t => wpAny (model X.prog X.w) (X.A.mark (some (.ref a))) (excMatches (.ref a) v) R E t) E' s := by
  obtain ⟨oe, vs, e1, e2, e3, e4, e5⟩ := l.obj hf
  have S := l.inv.suite e1 e3 na e4 e5
  have kind : PySem.W.Looks (model X.prog X.w) s.heap (typeOf (.ref a)) cls := fun A Q E t kp q => wpAny_typeOf_ref (kp _ _ e1) (by rw [e2.1]; exact q)
  have meets := PySem.W.exm_one (M := model X.prog X.w) l.inv.kIn kind hb
  obtain ⟨g, nd, own | ⟨none_, boot, nn⟩⟩ := hc
  · exact ld_glob (X := X.suite a ((a, oe) :: (X.pn ++ pins))) S g own (meets.here k) nd
  · exact ld_blt (X := X.suite a ((a, oe) :: (X.pn ++ pins))) S g none_ boot (meets.here k) nn nd
/-- the clauses, one after the other -/
theorem Lain.handled {D : Ends} (hs : X.stack = X.env :: X.outer) (hf : X.env.frame = some X.env.locals) {Wout : WX} (tk : Takes X Wout) (na : H a = none) {hds : List ExceptHandler} {cl : List Cl} (hc : Clauses X hds cl) :
    ∀ {s : Shared}, Lain X pins σ H a cls d s → wMix X.K Wout D cl cls d σ H → wpAny (model X.prog X.w) X.A (handleBy (.ref a) X.env hds) (SP X pins D) X.xe s := by
  induction hc with
  | nil => exact fun l w => l.out hs hf tk na w
  | bare hc hsu r ih =>
    rintro s l ⟨b, hb, yes, no⟩
    apply wpAny_handleBy_cons _ (fun z => by cases z)
    apply codeAny_handlers_test
    apply l.asked hf na hc hb
    cases b with
    | false => exact ih l (no rfl)
    | true =>
      apply codeAny_handlers_suite
      refine l.again fun h l2 => ?_
      obtain ⟨oe, vs, e1, e2, e3, e4, e5⟩ := l2.obj hf
      have ok := l2.inv.ok
      have S := l2.inv.suite e1 e3 na e4 e5
      refine wpAny_mono ((hsu a oe cls d (X.pn ++ pins) e2 ⟨_, e3⟩).run [] _ _ H D S (yes rfl a na)) (fun fl t sp => ?_) (fun _ _ z => z.elim)
      cases fl with
      | ret u => obtain ⟨v, σ2, H2, S2, rv, q2⟩ := sp; exact ⟨v, σ2, H2, S2.unsuite ok, rv, q2⟩
      | next => obtain ⟨σ2, H2, S2, q2⟩ := sp; exact ⟨σ2, H2, S2.unsuite ok, q2⟩
      | brk => obtain ⟨σ2, H2, S2, q2⟩ := sp; exact ⟨σ2, H2, S2.unsuite ok, q2⟩
      | cont => obtain ⟨σ2, H2, S2, q2⟩ := sp; exact ⟨σ2, H2, S2.unsuite ok, q2⟩
  | @named x n c i ts b0 bs p q hs2 l2 hN hi hln hc hsu r ih =>
    rintro s l ⟨b, hb, yes, no⟩
    apply wpAny_handleBy_cons _ (fun z => by cases z)
    apply codeAny_handlers_test
    apply l.asked hf na hc hb
    cases b with
    | false => exact ih l (no rfl)
    | true =>
      apply codeAny_handlers_suite_as
      refine l.again fun h l2 => ?_
      obtain ⟨oe, vs, e1, e2, e3, e4, e5⟩ := l2.obj hf
      have ok := l2.inv.ok
      have S := l2.inv.suite e1 e3 na e4 e5
      refine store_ok (X := X.suite a ((a, oe) :: (X.pn ++ pins))) (v := .ref a) S hN hi (.inl hln) rfl (fun t1 S1 => ?_) (.inr hln)
      refine wpAny_mono ((hsu a oe cls d (X.pn ++ pins) e2 ⟨_, e3⟩).run [] t1 _ H (forget i D) S1 (yes rfl a na)) (fun fl t sp => ?_) (fun _ _ z => z.elim)
      cases fl with
      | ret u => obtain ⟨v, σ2, H2, S2, rv, q2⟩ := sp; exact gone_ok (S2.unsuite ok) hN hi hln fun t2 J2 => ⟨v, _, H2, J2, rv, q2⟩
      | next => obtain ⟨σ2, H2, S2, q2⟩ := sp; exact gone_ok (S2.unsuite ok) hN hi hln fun t2 J2 => ⟨_, H2, J2, q2⟩
      | brk => obtain ⟨σ2, H2, S2, q2⟩ := sp; exact gone_ok (S2.unsuite ok) hN hi hln fun t2 J2 => ⟨_, H2, J2, q2⟩
      | cont => obtain ⟨σ2, H2, S2, q2⟩ := sp; exact gone_ok (S2.unsuite ok) hN hi hln fun t2 J2 => ⟨_, H2, J2, q2⟩
/-- try: body, and clauses -/
theorem ps_try_mix {body : List Stmt} {h0 : ExceptHandler} {hds : List ExceptHandler} {cl : List Cl} {pos : Pos} {tb : WX → TS} {Wout : WX} (hs : X.stack = X.env :: X.outer) (hf : X.env.frame = some X.env.locals) (tk : Takes X Wout)
    (hb : ∀ (W : WX) (pn : List (Addr × Obj)) (xe : Value → Shared → Prop), Takes (X.tr pn xe) W → PassesOwn (model X.prog X.w) X.A X.env xe → PSs (X.tr pn xe) body (tb W)) (hc : Clauses X (h0 :: hds) cl) : PS X (.Try body (h0 :: hds) [] [] pos) (fun D σ H => tb (wMix X.K Wout D cl) D σ H) := by
  constructor
  intro pins s σ H D I h
  have ok := I.ok
  have frames : X.A.frames = some (X.env :: X.outer) := ok.frames.trans (by rw [hs])
  apply wpAny_Try_except
  have B := (hb (wMix X.K Wout D cl) (X.pn ++ pins) (fun e t1 => wpAny (model X.prog X.w) X.A (noteFrame e X.env) (fun _ t2 => wpAny (model X.prog X.w) X.A (setFlight e none) (fun _ t3 => wpAny (model X.prog X.w) X.A (handleBy e X.env (h0 :: hds)) (SP X pins D) X.xe t3) X.xe t2) X.xe t1) (fun u s' air => by
    obtain ⟨a, B, t, pins', σ', H', cls, d, rfl, J, kept, upto, sky, na, eos, bare, wish⟩ := air
    have J0 : Inv X pins σ' H' t := J.ofTry ok
    rw [show (X.tr (X.pn ++ pins) _).stack = X.env :: X.outer from hs] at sky
    exact Sky.land (M := model X.prog X.w) (A := X.A) (E₁ := X.xe) (Q := fun _ t3 => wpAny (model X.prog X.w) X.A (handleBy (.ref a) X.env (h0 :: hds)) (SP X pins D) X.xe t3) Zc.steady frames hf sky fun h3 fly upto3 => Lain.handled hs hf tk na hc ⟨B, t, J0, kept, upto.trans upto3, fly, eos, bare⟩ wish) PassesOwn.looking).run [] s σ H D (I.toTry _) h
  refine wpAny_mono B (fun fl t sp => ?_) (fun e t he => he)
  cases fl with
  | next => obtain ⟨σ2, H2, J2, q2⟩ := sp; exact wpAny_execs_nil ⟨σ2, H2, J2.ofTry ok, q2⟩
  | ret u => obtain ⟨v, σ2, H2, J2, rv, q2⟩ := sp; exact ⟨v, σ2, H2, J2.ofTry ok, rv, q2⟩
  | brk => obtain ⟨σ2, H2, J2, q2⟩ := sp; exact ⟨σ2, H2, J2.ofTry ok, q2⟩
  | cont => obtain ⟨σ2, H2, J2, q2⟩ := sp; exact ⟨σ2, H2, J2.ofTry ok, q2⟩
end
/-! ### what Book tells of bodies -/
abbrev s_law_told : Stmt := topS 56
theorem sc_law_told : FnScope ["cells", "bodies", "told", "e"] ["cells", "bodies"] (defScope s_law_told) := ⟨rfl, rfl, rfl, by decide +kernel, rfl, by decide +kernel, by decide +kernel⟩
section
variable {P : Program} {w : World} {K : PySem.W.Frag} {mg : Str → Option Value} {base : Heap} {σ : L2.St} {H H' : Hp}
def spTold (K : PySem.W.Frag) (ok : Str → Prop) : Sp := fun vs H Q _ => ∃ (vc v : V) (dc db : PyData), vs = [vc, v] ∧ Dp K H vc dc ∧ BodyV K ok H v db ∧ (∀ c : Nat, c ≤ 3 → chkD c db = none → fit db 14 = true) ∧ ∀ v' H', Ex H H' → Dp K H' v' (dueD dc db) → Q v' H'
theorem ok_told {C CC CB f fI : Addr} {fd fdI : FuncData} {k : Nat} {ok : Str → Prop} (F : Fun K "_law_told" "_law_told" s_law_told f fd) (MB : Mk K C fI) (gB : mg "Book" = some (.ref C))
    (FI : FnOk P w K mg base (L2.CX P w) 19 fI fdI ["self", "cells", "bodies"] (spInitE K ok C CC CB)) (bI : Binds K fdI ["self", "cells", "bodies"] [])
    (gC : mg "NoCells" = some (.ref CC)) (gN : mg "NoBook" = some (.ref CB)) (eCC : PySem.W.exmOne K (.ref CC) (.ref CC) = some true) (eBC : PySem.W.exmOne K (.ref CB) (.ref CC) = some false) (eBB : PySem.W.exmOne K (.ref CB) (.ref CB) = some true)
    (TX : XfC K CB) (n1 : PySem.W.findIn K (.ref CB) "procedure" = some none) (n2 : PySem.W.findIn K (.ref CB) "path" = some none) (hk : 20 ≤ k) : FnOk P w K mg base CX0 (k + 1) f fd ["cells", "bodies"] (spTold K ok) := by
  have sc := sc_law_told
  refine F.ok sc (fun vs H Q E h => ?_) (fun cdv A outer s H vs Q E hr h => ?_)
  · obtain ⟨vc, v, dc, db, rfl, _⟩ := h
    rfl
  · obtain ⟨vc, v, dc, db, rfl, hdc, hv, hf, q⟩ := h
    refine ⟨_, (pss_cons (ps_set (i := 2) sc.nd rfl (by first | exact Or.inl rfl | exact Or.inr rfl) pe_str)
      (pss_cons (ps_try_mix (cl := [(.ref CC, none, fun _ _ _ => tAsg (tC (.str "cells")) (gName 2)), (.ref CB, some 3, fun a cls d => tAsg (tTup (tCons (tXf a cls d CB "procedure" (tVar 3)) (tCons (tXf a cls d CB "path" (tVar 3)) tNil))) (gName 2))]) rfl rfl takes0 (fun W pn xe tk _ => pss_one (ps_expr (pe_makeS (E := WE W) MB FI (hr.mono (by omega)) (by rfl) gB bI (fun σ => passAt tk σ) (pa_cons (pv 0) (pa_cons (pv 1) pa_nil))))) (.bare ⟨rfl, by decide, .inl gC⟩ (fun a oe cls d pn _ _ => pss_one (ps_set (i := 2) sc.nd rfl (by first | exact Or.inl rfl | exact Or.inr rfl) pe_str)) (.named (i := 3) sc.nd rfl rfl ⟨rfl, by decide, .inl gN⟩ (fun a oe cls d pn hz hf => pss_one (ps_set (i := 2) sc.nd rfl (by first | exact Or.inl rfl | exact Or.inr rfl) (pe_tup (pa_cons (pe_xf TX n1 hz hf (pv 3)) (pa_cons (pe_xf TX n2 hz hf (pv 3)) pa_nil))))) .nil)))
      (pss_one (ps_ret (pv 2))))), ?_⟩
    refine q_asg ev_c fun H1 e1 => ?_
    refine ⟨vc, rfl, v, rfl, ?_⟩
    intro X dx hX hdx ne
    have hX1 : (upd H1 dx (.own X)) X = none := by rw [upd_ne ne.symm]; exact hX
    have eX := (Ex.new (o := .own X) hdx).trans (Ex.new (o := .ins C dx []) hX1)
    refine ⟨X, dx, vc, v, dc, db, H1, rfl, upd_same, hX, eX, dp_ex (e1.trans eX) _ _ hdc, body_ex e1 hv, hf, fun hb H3 e3 => ?_, fun c hc c1 c3 => ⟨fun i p d' T H3 e3 hz hd' hxd hT => ?_, fun hz H3 e3 => ⟨rfl, ?_⟩⟩⟩
    · refine ⟨true, eCC, fun _ a ha => ?_, fun h => (nomatch h)⟩
      unfold suiteW
      dsimp only
      refine s_asg ev_c fun H4 e4 => ?_
      dsimp only
      refine s_ret (ev_var rfl) fun H5 e5 => q _ _ ((((e1.trans eX).trans e3).trans e4).trans e5) ?_
      rw [dueD, hb, if_neg (by decide)]
      exact .str _
    · subst hc
      have hb : btw 1 3 (.int (c : Int)) = true := by rw [btw, decide_eq_true (by omega), decide_eq_true (by omega)]; rfl
      refine ⟨false, eBC, fun h => (nomatch h), fun _ => ⟨true, eBB, fun _ a ha => ?_, fun h => (nomatch h)⟩⟩
      unfold suiteW
      dsimp only
      refine ⟨.ref a, rfl, rfl, rfl, d', _, .int i, rfl, hxd, rfl, .ref a, rfl, rfl, rfl, d', _, .ref T, rfl, hxd, rfl, by show 2 ≤ sizeLine; decide, fun R nR => ?_⟩
      refine s_ret (ev_var rfl) fun H5 e5 => q _ _ (((e1.trans eX).trans e3).trans ((Ex.new nR).trans e5)) ?_
      rw [dueD, hb, if_pos rfl, natD, Int.toNat_natCast, hz]
      exact .tup (st_of (e5 _ _ upd_same)) (.cons (.int i) (.cons (.tup (st_of (e5 _ _ (Ex.new nR _ _ hT))) (dpa_ints p)) .nil))
    · subst hc
      have hb : btw 1 3 (.int (c : Int)) = true := by rw [btw, decide_eq_true (by omega), decide_eq_true (by omega)]; rfl
      refine s_ret (ev_var rfl) fun H5 e5 => q _ _ (e1.trans (e3.trans e5)) ?_
      rw [dueD, hb, if_pos rfl, natD, Int.toNat_natCast, hz]
      exact .str _
end
/-! ### what has no fault is what is drawn -/
theorem row_inv {c : Nat} {d : PyData} (h : rowD c d = true) : ∃ r, d = LI r ∧ okR c r := by
  cases d with
  | list ds =>
    rw [rowD, Bool.and_eq_true] at h
    obtain ⟨ns, rfl⟩ := all_btw h.2
    refine ⟨ns, rfl, by have := of_decide_eq_true h.1; rwa [List.length_map] at this, fun x hx => ?_⟩
    have := List.all_eq_true.mp h.2 (.int x) (List.mem_map_of_mem hx)
    rw [btw, Bool.and_eq_true] at this
    exact ⟨of_decide_eq_true this.1, of_decide_eq_true this.2⟩
  | _ => cases h
theorem up_pw : ∀ (ns : List Int), up (ns.map PyData.int) = true → ns.Pairwise (· < ·)
  | [], _ => .nil
  | [a], _ => List.pairwise_singleton _ _
  | a :: b :: r, h => by
    rw [List.map_cons, List.map_cons, up, Bool.and_eq_true] at h
    have h1 := of_decide_eq_true h.1
    have h2 := up_pw (b :: r) h.2
    refine .cons (fun x hx => ?_) h2
    rcases List.mem_cons.mp hx with rfl | hx
    · exact h1
    · have := List.rel_of_pairwise_cons h2 hx
      omega
theorem cells_inv {c : Nat} {d : PyData} (h : cellsD c d = true) : ∃ cs : List Nat, d = LI (cs.map (Nat.cast : Nat → Int)) ∧ asc c cs := by
  cases d with
  | list ds =>
    rw [cellsD, Bool.and_eq_true] at h
    obtain ⟨ns, rfl⟩ := all_btw h.1
    have hb : ∀ x ∈ ns, 0 ≤ x ∧ x < c := fun x hx => by
      have := List.all_eq_true.mp h.1 (.int x) (List.mem_map_of_mem hx)
      rw [btw, Bool.and_eq_true] at this
      have h1 := of_decide_eq_true this.1
      have h2 := of_decide_eq_true this.2
      omega
    have he : (ns.map Int.toNat).map (Nat.cast : Nat → Int) = ns := by
      rw [List.map_map]
      refine (List.map_congr_left fun x hx => ?_).trans (List.map_id _)
      show ((x.toNat : Nat) : Int) = x
      exact Int.toNat_of_nonneg (hb x hx).1
    refine ⟨ns.map Int.toNat, by rw [he], ?_, fun k hk => ?_⟩
    · rw [List.pairwise_map]
      refine (up_pw ns h.2).imp_of_mem fun {x y} hx hy hxy => ?_
      have := hb x hx
      have := hb y hy
      omega
    · obtain ⟨x, hx, rfl⟩ := List.mem_map.mp hk
      have := hb x hx
      omega
  | _ => cases h
theorem btw_inv {n : Nat} {d : PyData} (h : btw 0 ((n : Int) - 1) d = true) : ∃ k : Nat, d = .int (k : Int) ∧ k < n := by
  cases d with
  | int j =>
    rw [btw, Bool.and_eq_true] at h
    have h1 := of_decide_eq_true h.1
    have h2 := of_decide_eq_true h.2
    exact ⟨j.toNat, by rw [Int.toNat_of_nonneg h1], by omega⟩
  | _ => cases h
theorem list_inv {d : PyData} (h : listD d = true) : ∃ ds, d = .list ds := by
  cases d with
  | list ds => exact ⟨ds, rfl⟩
  | _ => cases h
theorem lfs_none {F : List Int → List PyData → Nat → Fnd} {here : List Int} {k met : Nat} {b : PyData} {r : List PyData} (h : (lfs F here k (b :: r) met).1 = none) : (F (here ++ [(k : Int)]) (elems b) met).1 = none ∧ lfs F here k (b :: r) met = lfs F here (k + 1) r (F (here ++ [(k : Int)]) (elems b) met).2 := by
  rw [lfs] at h ⊢
  split at h
  · rename_i hs
    rw [h] at hs; cases hs
  · rename_i hs
    refine ⟨?_, by rw [if_neg hs]⟩
    cases e : (F (here ++ [(k : Int)]) (elems b) met).1 with
    | none => rfl
    | some p => rw [e] at hs; exact absurd rfl hs
/-- what a block without a fault is -/
def Blk (c m n lv : Nat) : Prop := ∀ (path : List Int) (ds : List PyData) (met : Nat), (lf c m n lv path ds met).1 = none → ∃ ss, ds = toDs ss ∧ okL c m ss lv ∧ ss.length ≤ 8 ∧ (lf c m n lv path ds met).2 = met + cntL ss
theorem stm_inv {c m n lv met : Nat} {here : List Int} {d : PyData} (hB : lv < 3 → Blk c m n (lv + 1)) (hb : badS c m lv d = false) (h : (lfs (lf c m n (lv + 1)) here 0 (blocksD d) met).1 = none) : ∃ s, d = toD s ∧ okS c m s lv ∧ (lfs (lf c m n (lv + 1)) here 0 (blocksD d) met).2 + 1 = met + cnt s := by
  rw [badS, Bool.not_eq_false', Bool.and_eq_true, Bool.or_eq_true, decide_eq_true_eq, List.isEmpty_iff] at hb
  obtain ⟨hs, hl⟩ := hb
  rcases sized_cases (stm_yes hs) with ⟨a, rfl⟩ | ⟨a, rfl⟩ | ⟨a, rfl⟩ | ⟨a, b, rfl⟩ | ⟨a, b, rfl⟩ | ⟨a, b, rfl⟩ | ⟨a, b, e, rfl⟩
  · obtain ⟨r, rfl, hr⟩ := row_inv (show rowD c a = true from hs)
    exact ⟨.carry r, rfl, by rw [okS]; exact hr, rfl⟩
  · obtain ⟨ds, rfl⟩ := list_inv (show listD a = true from hs)
    have h3 : lv < 3 := hl.elim id fun z => by cases z
    have h : (lfs (lf c m n (lv + 1)) here 0 [.list ds] met).1 = none := h
    obtain ⟨h1, h2⟩ := lfs_none h
    obtain ⟨ss, h4, h5, h6, h7⟩ := hB h3 _ _ _ h1
    have h4 : ds = toDs ss := h4
    subst h4
    refine ⟨.again ss, rfl, by rw [okS]; exact ⟨h3, h6, h5⟩, ?_⟩
    show (lfs (lf c m n (lv + 1)) here 0 [.list (toDs ss)] met).2 + 1 = _
    rw [h2, lfs, h7, cnt]; omega
  · obtain ⟨k, rfl, hk⟩ := btw_inv (n := 2) (show btw 0 1 a = true from hs)
    exact ⟨.fin k, rfl, by rw [okS]; exact hk, rfl⟩
  · have hs : (btw 0 ((c : Int) - 1) a && rowD c b) = true := hs
    rw [Bool.and_eq_true] at hs
    obtain ⟨k, rfl, hk⟩ := btw_inv hs.1
    obtain ⟨r, rfl, hr⟩ := row_inv hs.2
    exact ⟨.set k r, rfl, by rw [okS]; exact ⟨hk, hr⟩, rfl⟩
  · have hs : (cellsD c a && listD b) = true := hs
    rw [Bool.and_eq_true] at hs
    obtain ⟨cs, rfl, hc⟩ := cells_inv hs.1
    obtain ⟨ds, rfl⟩ := list_inv hs.2
    have h3 : lv < 3 := hl.elim id fun z => by cases z
    have h : (lfs (lf c m n (lv + 1)) here 0 [.list ds] met).1 = none := h
    obtain ⟨h1, h2⟩ := lfs_none h
    obtain ⟨ss, h4, h5, h6, h7⟩ := hB h3 _ _ _ h1
    have h4 : ds = toDs ss := h4
    subst h4
    refine ⟨.keep cs ss, rfl, by rw [okS]; exact ⟨h3, hc, h6, h5⟩, ?_⟩
    show (lfs (lf c m n (lv + 1)) here 0 [.list (toDs ss)] met).2 + 1 = _
    rw [h2, lfs, h7, cnt]; omega
  · have hs : (listD a && listD b) = true := hs
    rw [Bool.and_eq_true] at hs
    obtain ⟨da, rfl⟩ := list_inv hs.1
    obtain ⟨ds, rfl⟩ := list_inv hs.2
    have h3 : lv < 3 := hl.elim id fun z => by cases z
    have h : (lfs (lf c m n (lv + 1)) here 0 [.list da, .list ds] met).1 = none := h
    obtain ⟨h1, h2⟩ := lfs_none h
    rw [h2] at h
    obtain ⟨g1, g2⟩ := lfs_none h
    obtain ⟨sa, a4, a5, a6, a7⟩ := hB h3 _ _ _ h1
    obtain ⟨ss, h4, h5, h6, h7⟩ := hB h3 _ _ _ g1
    have a4 : da = toDs sa := a4
    have h4 : ds = toDs ss := h4
    subst a4 h4
    refine ⟨.either sa ss, rfl, by rw [okS]; exact ⟨h3, a6, a5, h6, h5⟩, ?_⟩
    show (lfs (lf c m n (lv + 1)) here 0 [.list (toDs sa), .list (toDs ss)] met).2 + 1 = _
    rw [h2, g2, lfs, h7, a7, cnt]; omega
  · have hs : (btw 0 ((m : Int) - 1) a && (rowD c b && pairD e)) = true := hs
    rw [Bool.and_eq_true, Bool.and_eq_true] at hs
    obtain ⟨k, rfl, hk⟩ := btw_inv hs.1
    obtain ⟨r, rfl, hr⟩ := row_inv hs.2.1
    obtain ⟨y, z, rfl⟩ := pair_t hs.2.2
    have hp : (listD y && listD z) = true := hs.2.2
    rw [Bool.and_eq_true] at hp
    obtain ⟨da, rfl⟩ := list_inv hp.1
    obtain ⟨ds, rfl⟩ := list_inv hp.2
    have h3 : lv < 3 := hl.elim id fun z => by cases z
    have h : (lfs (lf c m n (lv + 1)) here 0 [.list da, .list ds] met).1 = none := h
    obtain ⟨h1, h2⟩ := lfs_none h
    rw [h2] at h
    obtain ⟨g1, g2⟩ := lfs_none h
    obtain ⟨sa, a4, a5, a6, a7⟩ := hB h3 _ _ _ h1
    obtain ⟨ss, h4, h5, h6, h7⟩ := hB h3 _ _ _ g1
    have a4 : da = toDs sa := a4
    have h4 : ds = toDs ss := h4
    subst a4 h4
    refine ⟨.call k r sa ss, rfl, by rw [okS]; exact ⟨h3, hk, hr, a6, a5, h6, h5⟩, ?_⟩
    show (lfs (lf c m n (lv + 1)) here 0 [.list (toDs sa), .list (toDs ss)] met).2 + 1 = _
    rw [h2, g2, lfs, h7, a7, cnt]; omega
theorem lfi_inv {c m n lv : Nat} {path : List Int} (hB : lv < 3 → Blk c m n (lv + 1)) : ∀ (ds : List PyData) (i met : Nat), i ≤ 8 → (lfi c m lv (fun here d met => lfs (lf c m n (lv + 1)) here 0 (blocksD d) met) path i ds met).1 = none →
    ∃ ss, ds = toDs ss ∧ okL c m ss lv ∧ i + ss.length ≤ 8 ∧ (lfi c m lv (fun here d met => lfs (lf c m n (lv + 1)) here 0 (blocksD d) met) path i ds met).2 = met + cntL ss
  | [], i, met, hi, _ => ⟨[], rfl, by rw [okL]; trivial, hi, rfl⟩
  | d :: r, i, met, hi, h => by
    rw [lfi] at h ⊢
    split at h
    · cases h
    · rename_i hc
      rw [if_neg hc]
      simp only [Bool.not_eq_true, Bool.or_eq_false_iff, decide_eq_false_iff_not] at hc
      obtain ⟨⟨h8, _⟩, hbad⟩ := hc
      split at h
      · rename_i hs
        rw [h] at hs; cases hs
      · rename_i hs
        rw [if_neg hs]
        have hn : (lfs (lf c m n (lv + 1)) (path ++ [(i : Int)]) 0 (blocksD d) (met + 1)).1 = none := by
          cases e : (lfs (lf c m n (lv + 1)) (path ++ [(i : Int)]) 0 (blocksD d) (met + 1)).1 with
          | none => rfl
          | some p => rw [e] at hs; exact absurd rfl hs
        obtain ⟨s, rfl, oks, hcs⟩ := stm_inv hB hbad hn
        obtain ⟨ss, rfl, okl, hl, hcl⟩ := lfi_inv hB r (i + 1) _ (by omega) h
        refine ⟨s :: ss, by rw [toDs], by rw [okL]; exact ⟨oks, okl⟩, by rw [List.length_cons]; omega, ?_⟩
        rw [hcl, cntL]; omega
theorem lf_inv {c m : Nat} : ∀ (n lv : Nat), n + lv = 4 → 1 ≤ n → Blk c m n lv
  | 0, _, _, h => by omega
  | n + 1, lv, hn, _ => fun path ds met h => by
    rw [lf] at h ⊢
    obtain ⟨ss, h1, h2, h3, h4⟩ := lfi_inv (fun h3 => lf_inv n (lv + 1) (by omega) (by omega)) ds 0 met (by decide) h
    exact ⟨ss, h1, h2, by omega, h4⟩
/-- a body without a fault -/
theorem first_inv {c m : Nat} {ds : List PyData} (h : firstD c m ds = none) : ∃ ss, ds = toDs ss ∧ okB c m ss := by
  rw [← lf_first] at h
  obtain ⟨ss, h1, h2, h3, h4⟩ := lf_inv (c := c) (m := m) 4 0 rfl (by decide) [] ds 0 h
  have := lf_le (c := c) (m := m) (n := 4) (lv := 0) (met := 0) (path := []) (ds := ds) rfl (by decide) rfl (by decide) h
  exact ⟨ss, h1, h2, h3, by omega⟩
/-! ### the seven words and a wrong one -/
def ok8 (x : Str) : Prop := ok7 x ∨ x = Str.ofString "stop"
theorem ok8_words : okWords ok8 := by
  obtain ⟨a, b, c, d, e, f, g⟩ := ok7_words
  exact ⟨.inl a, .inl b, .inl c, .inl d, .inl e, .inl f, .inl g⟩
theorem sizes8 {K : PySem.W.Frag} {w : World} {a : Addr} {es : Array DictEntry} {n : Nat} (s : Sizes K w a es n ok7) (h : PySem.W.nsIn K a "stop" = some none) : Sizes K w a es n ok8 := by
  have z : szOf (Str.ofString "stop") = none := by decide
  refine ⟨s.d, fun x m hx hm => ?_, fun x hx hm => ?_⟩
  · rcases hx with hx | rfl
    · exact s.yes x m hx hm
    · rw [z] at hm; cases hm
  · rcases hx with hx | rfl
    · exact s.no x hx hm
    · exact h
/-! ### a heap without what W holds -/
open Classical in
noncomputable def Cw (W : Addr → Prop) (H : Hp) : Hp := fun a => if W a then none else H a
section
variable {K : PySem.W.Frag} {σ : L2.St} {H H' Hb : Hp} {W : Addr → Prop} {p a : Addr} {ta tb te : TE}
theorem cw_o {o : HO} (h : H a = some o) (n : ¬ W a) : Cw W H a = some o := by rw [Cw, if_neg n]; exact h
theorem cw_ne {o : HO} (h : Cw W H a = some o) : ¬ W a ∧ H a = some o := by
  by_cases e : W a
  · rw [Cw, if_pos e] at h; cases h
  · rw [Cw, if_neg e] at h; exact ⟨e, h⟩
theorem cw_ex : Ex (Cw W H) H := fun a o h => (cw_ne h).2
theorem cw_mono (e : Ex H H') : Ex (Cw W H) (Cw W H') := fun a o h => cw_o (e a o (cw_ne h).2) (cw_ne h).1
/-- all that W holds is there -/
def Has (W : Addr → Prop) (H : Hp) : Prop := ∀ a, W a → ∃ u, H a = some u
theorem has_ex (e : Ex H H') (h : Has W H) : Has W H' := fun a w => (h a w).imp fun _ x => e _ _ x
theorem has_new (h : Has W H) (n : H a = none) : ¬ W a := fun w => by obtain ⟨u, hu⟩ := h a w; rw [n] at hu; cases hu
def DPw (K : PySem.W.Frag) (W : Addr → Prop) (d : PyData) (v : V) (H : Hp) : Prop := Dp K (Cw W H) v d
theorem dpw_ex {d : PyData} {v : V} (e : Ex H H') (h : DPw K W d v H) : DPw K W d v H' := dp_ex (cw_mono e) _ _ h
theorem cw_oth (wp : W p) (o : Oth p H H') : Ex (Cw W H) (Cw W H') := fun a u h => cw_o (o a u (fun z => (cw_ne h).1 (z ▸ wp)) (cw_ne h).2) (cw_ne h).1
theorem dpw_oth {d : PyData} {v : V} (wp : W p) (o : Oth p H H') (h : DPw K W d v H) : DPw K W d v H' := dp_ex (cw_oth wp o) _ _ h
/-- the pool, and all that W holds -/
structure PW (W : Addr → Prop) (H : Hp) (p q : Addr) : Prop where
  pool : Pool H p q
  has : Has W H
  wp : W p
theorem PW.isP {q : Addr} (x : PW W H p q) : Has W H := x.has
theorem PW.ex {q : Addr} (x : PW W H p q) (e : Ex H H') : PW W H' p q := ⟨x.pool.ex e, has_ex e x.has, x.wp⟩
theorem PW.oth {q : Addr} (x : PW W H p q) (o : Oth p H H') (y : Pool H' p q) : PW W H' p q := ⟨y, fun a w => by
  by_cases z : a = p
  · rw [z]; exact y.isP
  · exact (x.has a w).imp fun _ h => o _ _ z h, x.wp⟩
end
/-! ### wrong things -/
abbrev s_law_wrong_thing : Stmt := topS 57
theorem sc_law_wrong_thing : FnScope ["pool", "cells", "many", "row", "pick", "things", "bad", "chosen", "kept", "blocks", "k"] ["pool", "cells", "many"] (defScope s_law_wrong_thing) := ⟨rfl, rfl, rfl, by decide +kernel, rfl, by decide +kernel, by decide +kernel⟩
section
variable {P : Program} {w : World} {K : PySem.W.Frag} {mg : Str → Option Value} {base : Heap} {σ : L2.St} {H H' : Hp} {p a : Addr} {W : Addr → Prop} {te ta tb : TE} {Φ : V → Hp → Prop}
def EvDc (K : PySem.W.Frag) (W : Addr → Prop) (ta : TA) (σ : L2.St) (H : Hp) (ds : List PyData) : Prop := ∀ H1, Ex H H1 → ∀ Q : List V → Hp → Prop, (∀ vs H2, Ex H1 H2 → DpAll K (Cw W H2) vs ds → Q vs H2) → ta σ H1 Q
theorem edc_nil : EvDc K W tNil σ H [] := fun H1 _ _ q => q [] H1 (Ex.refl H1) .nil
theorem edc_cons {tr : TA} {d : PyData} {ds : List PyData} (h : EvP te σ H (DPw K W d)) (hr : EvDc K W tr σ H ds) : EvDc K W (tCons te tr) σ H (d :: ds) := fun H1 e _ q =>
  h H1 e _ fun v H2 e2 f => hr H2 (e.trans e2) _ fun vs H3 e3 g => q (v :: vs) H3 (e2.trans e3) (.cons (dpw_ex e3 f) g)
theorem epc_lst {tr : TA} {ds : List PyData} (hp : Has W H) (h : EvDc K W tr σ H ds) (hl : ds.length ≤ 100000) : EvP (tLst tr) σ H (DPw K W (.list ds)) := fun H1 e _ q =>
  h H1 e _ fun vs H2 e2 g => ⟨sz_of (by rw [dpa_len g]; exact hl), fun a ha => q _ _ (e2.trans (Ex.new ha)) (.lst (sq_of (cw_o upd_same (has_new (has_ex (e.trans e2) hp) ha))) (dpa_ex (cw_mono (Ex.new ha)) _ _ g))⟩
theorem epc_tup {tr : TA} {ds : List PyData} (hp : Has W H) (h : EvDc K W tr σ H ds) (hl : ds.length ≤ 100000) : EvP (tTup tr) σ H (DPw K W (.tuple ds)) := fun H1 e _ q =>
  h H1 e _ fun vs H2 e2 g => ⟨sz_of (by rw [dpa_len g]; exact hl), fun a ha => q _ _ (e2.trans (Ex.new ha)) (.tup (st_of (cw_o upd_same (has_new (has_ex (e.trans e2) hp) ha))) (dpa_ex (cw_mono (Ex.new ha)) _ _ g))⟩
theorem epc_ev {v : V} {d : PyData} (h : Ev te σ H v) (hd : Dp K (Cw W H) v d) : EvP te σ H (DPw K W d) := ep_ev h fun _ e => dp_ex (cw_mono e) _ _ hd
/-! a list of things -/
def EvM (Φ : V → Hp → Prop) (W : Addr → Prop) (te : TE) (σ : L2.St) (H : Hp) (n : Nat) : Prop := ∀ H1, Ex H H1 → ∀ Q : VK, (∀ L vs H2, Ex H1 H2 → H2 L = some (.lst vs) → ¬ W L → vs.length = n → (∀ v ∈ vs, Φ v H2) → Q (.ref L) H2) → te σ H1 Q
theorem em_lst {tr : TA} {n : Nat} (mono : ∀ v H H', Ex H H' → Φ v H → Φ v H') (hp : Has W H) (h : EvW Φ tr σ H n) (hn : n ≤ 1000) : EvM Φ W (tLst tr) σ H n := fun H1 e Q q =>
  h H1 e _ fun vs H2 e2 hl hv => ⟨sz_of (by omega), fun L nL => q L vs _ (e2.trans (Ex.new nL)) upd_same (has_new (has_ex (e.trans e2) hp) nL) hl fun v hv2 => mono _ _ _ (Ex.new nL) (hv v hv2)⟩
theorem em_var {i : Nat} {L : Addr} {vs : List V} (mono : ∀ v H H', Ex H H' → Φ v H → Φ v H') (h : σ[i]? = some (some (.ref L))) (hL : H L = some (.lst vs)) (hp : ¬ W L) (hv : ∀ v ∈ vs, Φ v H) : EvM Φ W (tVar i) σ H vs.length := fun H1 e Q q =>
  ⟨.ref L, h, q L vs H1 (Ex.refl _) (e _ _ hL) hp rfl fun v h2 => mono _ _ _ e (hv v h2)⟩
theorem em_varN {i n : Nat} {L : Addr} {vs : List V} (hn : vs.length = n) (mono : ∀ v H H', Ex H H' → Φ v H → Φ v H') (h : σ[i]? = some (some (.ref L))) (hL : H L = some (.lst vs)) (hp : ¬ W L) (hv : ∀ v ∈ vs, Φ v H) : EvM Φ W (tVar i) σ H n := by
  subst hn
  exact em_var mono h hL hp hv
theorem em_cat {n m : Nat} (mono : ∀ v H H', Ex H H' → Φ v H → Φ v H') (hp : Has W H) (h1 : EvM Φ W ta σ H n) (h2 : EvM Φ W tb σ H m) (hn : n + m ≤ 1000) : EvM Φ W (tOp rCat ta tb) σ H (n + m) := fun H1 e Q q =>
  h1 H1 e _ fun L vs H2 e2 hL _ l1 v1 => h2 H2 (e.trans e2) _ fun M ws H3 e3 hM _ l2 v2 => ⟨L, M, vs, ws, rfl, rfl, e3 _ _ hL, hM, sz_of (by omega), fun R nR =>
    q R (vs ++ ws) _ ((e2.trans e3).trans (Ex.new nR)) upd_same (has_new (has_ex ((e.trans e2).trans e3) hp) nR) (by rw [List.length_append, l1, l2]) fun v hv => by
      rcases List.mem_append.mp hv with hv | hv
      · exact mono _ _ _ (e3.trans (Ex.new nR)) (v1 v hv)
      · exact mono _ _ _ (Ex.new nR) (v2 v hv)⟩
theorem menuM {E : XK} {q0 : Addr} {n ip : Nat} (hσ : σ[ip]? = some (some (.ref p))) (hM : EvM Φ W te σ H n) (hn : 0 < n) (hn2 : n ≤ 1000) (x : PW W H p q0) (mono : ∀ v H H', Oth p H H' → Φ v H → Φ v H') {Q : VK} (k : ∀ v H', Oth p H H' → PW W H' p q0 → Φ v H' → Q v H') :
    tOp (rIxL K) te (tCall spDraw [] E (tCons (tVar ip) (tCons (tC (.int (n : Int))) tNil))) σ H Q := by
  refine hM H (Ex.refl H) _ fun L vs H2 e2 hL hLp hl hv => ?_
  have x2 := x.ex e2
  refine ⟨.ref p, hσ, p, q0, (n : Int), rfl, by omega, by rw [Int.natAbs_natCast]; exact Nat.lt_of_le_of_lt hn2 (by decide), x2.pool, fun r H3 r0 rn o3 x3p => ?_⟩
  have x3 := x2.oth o3 x3p
  have hLp : L ≠ p := fun z => hLp (z ▸ x.wp)
  have hr : r.toNat < vs.length := by omega
  refine ⟨L, vs, r, vs[r.toNat], rfl, rfl, sq_of (o3 _ _ hLp hL), at_of (j := r.toNat) (by omega) (List.getElem?_eq_getElem hr), ?_⟩
  exact k _ H3 ((Oth.of e2).trans o3) x3 (mono _ _ _ o3 (hv _ (List.getElem_mem hr)))
/-- a thing -/
def Wt (K : PySem.W.Frag) (n : Nat) (W : Addr → Prop) (v : V) (H : Hp) : Prop := ∃ d, DPw K W d v H ∧ fit d n = true ∧ allW ok8 d
theorem wt_ex {n : Nat} : ∀ (v : V) (H H' : Hp), Ex H H' → Wt K n W v H → Wt K n W v H' := fun _ _ _ e ⟨d, a, b⟩ => ⟨d, dpw_ex e a, b⟩
theorem wt_oth {n : Nat} (wp : W p) : ∀ (v : V) (H H' : Hp), Oth p H H' → Wt K n W v H → Wt K n W v H' := fun _ _ _ o ⟨d, a, b⟩ => ⟨d, dpw_oth wp o a, b⟩
theorem wt {n : Nat} {d : PyData} (h : EvP te σ H (DPw K W d)) (hf : fit d n = true) (hw : allW ok8 d) : EvP te σ H (Wt K n W) := h.imp fun _ _ _ f => ⟨d, f, hf, hw⟩
/-- rows -/
theorem epc_el {l : List Int} (hp : Has W H) (h : EvL te σ H (l.map V.int)) : EvP te σ H (DPw K W (LI l)) := fun H1 e Q q =>
  h H1 e _ fun L H2 nL e2 hL => q _ _ e2 (.lst (sq_of (cw_o hL (has_new (has_ex e hp) nL))) (dpa_ints l))
theorem el_catL {xs ys : List V} (h1 : EvL ta σ H xs) (h2 : EvL tb σ H ys) (hl : xs.length + ys.length ≤ 100000) : EvL (tOp rCat ta tb) σ H (xs ++ ys) := fun H1 e Q q =>
  h1 H1 e _ fun L H2 nL e2 hL => h2 H2 (e.trans e2) _ fun M H3 nM e3 hM => ⟨L, M, xs, ys, rfl, rfl, e3 _ _ hL, hM, sz_of hl, fun R nR => q R _ (fresh_back (e2.trans e3) nR) ((e2.trans e3).trans (Ex.new nR)) upd_same⟩
theorem el_catV {i : Nat} {L : Addr} {xs ys : List V} (h : σ[i]? = some (some (.ref L))) (hL : H L = some (.lst xs)) (h2 : EvL tb σ H ys) (hl : xs.length + ys.length ≤ 100000) : EvL (tOp rCat (tVar i) tb) σ H (xs ++ ys) := fun H1 e Q q =>
  ⟨.ref L, h, h2 H1 e _ fun M H3 nM e3 hM => ⟨L, M, xs, ys, rfl, rfl, e3 _ _ (e _ _ hL), hM, sz_of hl, fun R nR => q R _ (fresh_back e3 nR) (e3.trans (Ex.new nR)) upd_same⟩⟩
theorem dpa_appJ : ∀ {xs ys : List V} {ds es : List PyData}, DpAll K H xs ds → DpAll K H ys es → DpAll K H (xs ++ ys) (ds ++ es)
  | _, _, _, _, .nil, h => h
  | _, _, _, _, .cons a b, h => .cons a (dpa_appJ b h)
theorem epc_elD {xs : List V} {ds : List PyData} (hp : Has W H) (h : EvL te σ H xs) (hd : ∀ H : Hp, DpAll K H xs ds) : EvP te σ H (DPw K W (.list ds)) := fun H1 e Q q =>
  h H1 e _ fun L H2 nL e2 hL => q _ _ e2 (.lst (sq_of (cw_o hL (has_new (has_ex e hp) nL))) (hd _))
theorem el_tail {i : Nat} {R : Addr} {zs : List Int} (h : σ[i]? = some (some (.ref R))) (hR : H R = some (.lst (zs.map V.int))) : EvL (tSl (rSlL K) (tVar i) (tPart (tC (.int 1))) tNoPart) σ H ((zs.drop 1).map V.int) :=
  el_is (el_sl (ev_var h) (eo_some ev_c) eo_none (sq_of hR)) (by rw [cut1, List.map_drop])
theorem ep_rowT {i : Nat} {R : Addr} {zs : List Int} (hp : Has W H) (h : σ[i]? = some (some (.ref R))) (hR : H R = some (.lst (zs.map V.int))) : EvP (tCB (fun xs H Q => ∃ p ys, xs = [.ref p] ∧ ((SqL K H p ys ∧ ∀ l, H l = none → Q (.ref l) (upd H l (.tup ys))) ∨ (SqT K H p ys ∧ Q (.ref p) H))) (tCons (tVar i) tNil)) σ H (DPw K W (.tuple (zs.map PyData.int))) := fun H1 e Q q =>
  ⟨.ref R, h, R, _, rfl, .inl ⟨sq_of (e _ _ hR), fun T nT => q _ _ (Ex.new nT) (.tup (st_of (cw_o upd_same (has_new (has_ex e hp) nT))) (dpa_ints zs))⟩⟩
theorem fitAll_appI : ∀ {a b : List PyData} {n : Nat}, fitAll (a ++ b) n = (fitAll a n && fitAll b n)
  | [], b, n => by rw [List.nil_append, fitAll, Bool.true_and]
  | x :: r, b, n => by rw [List.cons_append, fitAll, fitAll, fitAll_appI, Bool.and_assoc]
theorem allWs_appI {ok : Str → Prop} : ∀ {a b : List PyData}, allWs ok (a ++ b) ↔ (allWs ok a ∧ allWs ok b)
  | [], b => by rw [List.nil_append, allWs]; exact ⟨fun h => ⟨trivial, h⟩, fun h => h.2⟩
  | x :: r, b => by rw [List.cons_append, allWs, allWs, allWs_appI, and_assoc]
theorem fit_app2 {a b : List PyData} (ha : fitAll a 4 = true) (hb : fitAll b 4 = true) (l : a.length + b.length ≤ 10000) : fit (.list (a ++ b)) 5 = true := lv_len (by rw [List.length_append]; exact l) (by rw [fitAll_appI, ha, hb]; rfl)
theorem allW_app2 {ok : Str → Prop} {a b : List PyData} (ha : allWs ok a) (hb : allWs ok b) : allW ok (.list (a ++ b)) := by rw [allW]; exact allWs_appI.mpr ⟨ha, hb⟩
theorem allW_LI {ok : Str → Prop} (l : List Int) : allW ok (LI l) := by rw [allW]; exact allWs_ints l
theorem allW_tupI {ok : Str → Prop} (l : List Int) : allW ok (.tuple (l.map PyData.int)) := by
  rw [allW]
  refine ⟨?_, allWs_ints l⟩
  cases l with
  | nil => trivial
  | cons i r => trivial
def spWT (K : PySem.W.Frag) : Sp := fun vs H Q _ => ∃ (W : Addr → Prop) (p q : Addr) (c m : Nat), vs = [.ref p, .int (c : Int), .int (m : Int)] ∧ c ≤ 3 ∧ PW W H p q ∧ ∀ v H', Oth p H H' → PW W H' p q → Wt K 6 W v H' → Q v H'
theorem ok_thing {f : Addr} {fd : FuncData} {k : Nat} (F : Fun K "_law_wrong_thing" "_law_wrong_thing" s_law_wrong_thing f fd) (z_range : mg "range" = none) (z_tuple : mg "tuple" = none) (C_law_draw : Cal P w K mg base 1 "_law_draw" spDraw []) (hk : 1 ≤ k) : FnOk P w K mg base CX0 (k + 1) f fd ["pool", "cells", "many"] (spWT K) := by
  have sc := sc_law_wrong_thing
  refine F.ok sc (fun vs H Q E h => ?_) (fun cdv A outer s H vs Q E hr h => ?_)
  · obtain ⟨W, p, q0, c, m, rfl, _⟩ := h
    rfl
  · obtain ⟨W, p, q0, c, m, rfl, c3, x, q⟩ := h
    refine ⟨_, (pss_cons (ps_setLc (i := 3) (own := [("k", 10)]) (by rfl) sc.nd rfl rfl (sw_true rfl rfl rfl (by decide +kernel)) (pi_range1 (by rfl) z_range (pa_cons (pe_op op_add (pv 1) pe_int) pa_nil)) (blkOk_by (own := [("k", 10)]) (N := ["pool", "cells", "many", "row", "pick", "things", "bad", "chosen", "kept", "blocks", "k"]) (sc := defScope s_law_wrong_thing) (by decide +kernel)) (fun _ _ _ _ _ => (pg_name (i := 10) sc.nd rfl (by first | exact Or.inl rfl | exact Or.inr rfl))) (fun _ _ _ _ _ => pts_nil) (fun _ _ _ _ _ => pe_int))
      (pss_cons (ps_set (i := 4) sc.nd rfl (by first | exact Or.inl rfl | exact Or.inr rfl) (pe_c C_law_draw hr (by omega) (by rfl) (pa_cons (pv 0) (pa_cons pe_int pa_nil))))
      (pss_cons (ps_if (pt_cmpR op_eq (pv 4) pe_int (nomark _))
      (pss_one (ps_ret (pe_ix ix_list (pe_lst (pa_cons pe_non (pa_cons pe_bl (pa_cons pe_int (pa_cons (pe_lst pa_nil) (pa_cons (pe_tup pa_nil) (pa_cons pe_str (pa_cons (pe_tup (pa_cons pe_str pa_nil)) (pa_cons (pe_tup (pa_cons pe_str (pa_cons pe_int pa_nil))) (pa_cons (pe_tup (pa_cons pe_int (pa_cons pe_int pa_nil))) (pa_cons (pe_lst (pa_cons pe_str (pa_cons pe_int pa_nil))) pa_nil))))))))))) (pe_c C_law_draw hr (by omega) (by rfl) (pa_cons (pv 0) (pa_cons pe_int pa_nil))) (fun _ _ => rfl))))
      pss_nil)
      (pss_cons (ps_if (pt_cmpR op_eq (pv 4) pe_int (nomark _))
      (pss_cons (ps_set (i := 6) sc.nd rfl (by first | exact Or.inl rfl | exact Or.inr rfl) (pe_lst (pa_cons (pe_op op_cat (pv 3) (pe_lst (pa_cons pe_int pa_nil))) (pa_cons (pe_slice sl_list (pv 3) (po_some pe_int) po_none) (pa_cons (pe_callTy call_tuple_of (by rfl) z_tuple (by decide +kernel) (pa_cons (pv 3) pa_nil)) (pa_cons (pe_op op_cat (pe_lst (pa_cons pe_int pa_nil)) (pe_slice sl_list (pv 3) (po_some pe_int) po_none)) (pa_cons (pe_op op_cat (pe_lst (pa_cons pe_bl pa_nil)) (pe_slice sl_list (pv 3) (po_some pe_int) po_none)) (pa_cons pe_non (pa_cons (pe_op op_cat (pe_lst (pa_cons (pe_un un_neg pe_int) pa_nil)) (pe_slice sl_list (pv 3) (po_some pe_int) po_none)) pa_nil)))))))))
      (pss_cons (ps_set (i := 7) sc.nd rfl (by first | exact Or.inl rfl | exact Or.inr rfl) (pe_ix ix_list (pv 6) (pe_c C_law_draw hr (by omega) (by rfl) (pa_cons (pv 0) (pa_cons pe_int pa_nil))) (fun _ _ => rfl)))
      (pss_one (ps_ret (pe_ix ix_list (pe_lst (pa_cons (pe_tup (pa_cons pe_str (pa_cons (pv 7) pa_nil))) (pa_cons (pe_tup (pa_cons pe_str (pa_cons pe_int (pa_cons (pv 7) pa_nil)))) (pa_cons (pe_tup (pa_cons pe_str (pa_cons pe_int (pa_cons (pv 7) (pa_cons (pe_lst (pa_cons (pe_lst pa_nil) (pa_cons (pe_lst pa_nil) pa_nil))) pa_nil))))) pa_nil)))) (pe_c C_law_draw hr (by omega) (by rfl) (pa_cons (pv 0) (pa_cons pe_int pa_nil))) (fun _ _ => rfl))))))
      pss_nil)
      (pss_cons (ps_if (pt_cmpR op_eq (pv 4) pe_int (nomark _))
      (pss_one (ps_ret (pe_tup (pa_cons pe_str (pa_cons (pe_ix ix_list (pe_lst (pa_cons (pv 1) (pa_cons (pe_un un_neg pe_int) (pa_cons pe_non (pa_cons pe_bl (pa_cons pe_str (pa_cons (pe_tup (pa_cons pe_int pa_nil)) pa_nil))))))) (pe_c C_law_draw hr (by omega) (by rfl) (pa_cons (pv 0) (pa_cons pe_int pa_nil))) (fun _ _ => rfl)) (pa_cons (pv 3) pa_nil))))))
      pss_nil)
      (pss_cons (ps_if (pt_cmpR op_eq (pv 4) pe_int (nomark _))
      (pss_one (ps_ret (pe_tup (pa_cons pe_str (pa_cons (pe_ix ix_list (pe_lst (pa_cons (pv 2) (pa_cons (pe_un un_neg pe_int) (pa_cons pe_non (pa_cons pe_bl (pa_cons pe_str pa_nil)))))) (pe_c C_law_draw hr (by omega) (by rfl) (pa_cons (pv 0) (pa_cons pe_int pa_nil))) (fun _ _ => rfl)) (pa_cons (pv 3) (pa_cons (pe_lst (pa_cons (pe_lst pa_nil) (pa_cons (pe_lst pa_nil) pa_nil))) pa_nil)))))))
      pss_nil)
      (pss_cons (ps_if (pt_cmpR op_eq (pv 4) pe_int (nomark _))
      (pss_cons (ps_set (i := 8) sc.nd rfl (by first | exact Or.inl rfl | exact Or.inr rfl) (pe_ix ix_list (pe_lst (pa_cons (pe_tup (pa_cons pe_int pa_nil)) (pa_cons (pe_lst (pa_cons (pv 1) pa_nil)) (pa_cons (pe_lst (pa_cons (pe_un un_neg pe_int) pa_nil)) (pa_cons (pe_lst (pa_cons pe_int (pa_cons pe_int pa_nil))) (pa_cons (pe_lst (pa_cons pe_bl pa_nil)) (pa_cons pe_non (pa_cons (pe_lst (pa_cons pe_non pa_nil)) (pa_cons pe_int pa_nil))))))))) (pe_c C_law_draw hr (by omega) (by rfl) (pa_cons (pv 0) (pa_cons pe_int pa_nil))) (fun _ _ => rfl)))
      (pss_one (ps_ret (pe_tup (pa_cons pe_str (pa_cons (pv 8) (pa_cons (pe_lst pa_nil) pa_nil)))))))
      pss_nil)
      (pss_cons (ps_if (pt_cmpR op_eq (pv 4) pe_int (nomark _))
      (pss_one (ps_ret (pe_tup (pa_cons pe_str (pa_cons (pe_ix ix_list (pe_lst (pa_cons pe_int (pa_cons (pe_un un_neg pe_int) (pa_cons pe_bl (pa_cons pe_non (pa_cons pe_str (pa_cons (pe_lst (pa_cons pe_int pa_nil)) pa_nil))))))) (pe_c C_law_draw hr (by omega) (by rfl) (pa_cons (pv 0) (pa_cons pe_int pa_nil))) (fun _ _ => rfl)) pa_nil)))))
      pss_nil)
      (pss_cons (ps_if (pt_cmpR op_eq (pv 4) pe_int (nomark _))
      (pss_cons (ps_set (i := 9) sc.nd rfl (by first | exact Or.inl rfl | exact Or.inr rfl) (pe_ix ix_list (pe_lst (pa_cons (pe_lst (pa_cons (pe_lst pa_nil) pa_nil)) (pa_cons (pe_lst (pa_cons (pe_lst pa_nil) (pa_cons (pe_lst pa_nil) (pa_cons (pe_lst pa_nil) pa_nil)))) (pa_cons (pe_tup (pa_cons (pe_lst pa_nil) (pa_cons (pe_lst pa_nil) pa_nil))) (pa_cons (pe_lst (pa_cons (pe_lst pa_nil) (pa_cons pe_non pa_nil))) (pa_cons (pe_lst (pa_cons (pe_tup pa_nil) (pa_cons (pe_lst pa_nil) pa_nil))) (pa_cons pe_non pa_nil))))))) (pe_c C_law_draw hr (by omega) (by rfl) (pa_cons (pv 0) (pa_cons pe_int pa_nil))) (fun _ _ => rfl)))
      (pss_one (ps_ret (pe_tup (pa_cons pe_str (pa_cons pe_int (pa_cons (pv 3) (pa_cons (pv 9) pa_nil))))))))
      pss_nil)
      (pss_cons (ps_set (i := 5) sc.nd rfl (by first | exact Or.inl rfl | exact Or.inr rfl) (pe_lst (pa_cons (pe_tup (pa_cons pe_str (pa_cons (pe_tup pa_nil) pa_nil))) (pa_cons (pe_tup (pa_cons pe_str (pa_cons (pe_lst pa_nil) (pa_cons (pe_lst pa_nil) pa_nil)))) (pa_cons (pe_tup (pa_cons pe_str (pa_cons (pe_lst pa_nil) (pa_cons pe_non pa_nil)))) (pa_cons (pe_tup (pa_cons pe_str (pa_cons (pe_lst pa_nil) pa_nil))) (pa_cons (pe_tup (pa_cons pe_str (pa_cons (pe_lst pa_nil) (pa_cons (pe_tup pa_nil) pa_nil)))) (pa_cons (pe_tup (pa_cons pe_str (pa_cons (pe_lst pa_nil) pa_nil))) pa_nil))))))))
      (pss_one (ps_ret (pe_ix ix_list (pe_op op_cat (pv 5) (pe_lst (pa_cons (pe_tup (pa_cons pe_str (pa_cons (pv 3) (pa_cons (pv 3) pa_nil)))) (pa_cons (pe_tup (pa_cons pe_str (pa_cons pe_int pa_nil))) (pa_cons (pe_tup (pa_cons pe_str (pa_cons pe_non pa_nil))) (pa_cons (pe_tup (pa_cons pe_str (pa_cons (pe_tup pa_nil) (pa_cons (pe_lst pa_nil) pa_nil)))) pa_nil)))))) (pe_c C_law_draw hr (by omega) (by rfl) (pa_cons (pv 0) (pa_cons pe_int pa_nil))) (fun _ _ => rfl)))))))))))))), ?_⟩
    have hp0 := x.isP
    refine q_asgL (el_rng (n := c + 2) (fun _ => V.int 0) (ea_cons (ev_is (ev_op (ev_var rfl) ev_c rv_I0) (by rw [Int.natCast_add]; rfl)) ea_nil) (by omega) (fun _ => rfl) fun i H1 e hi => ev_c) fun R H1 nR e1 hR1 => ?_
    obtain ⟨zs, hzs, lz⟩ : ∃ zs : List Int, (List.range (c + 2)).map (fun _ => V.int 0) = zs.map V.int ∧ zs.length ≤ 10 := ⟨(List.range (c + 2)).map fun _ => 0, by rw [List.map_map]; rfl, by rw [List.length_map, List.length_range]; omega⟩
    rw [hzs] at hR1
    have nRW : ¬ W R := has_new hp0 nR
    have nRp : R ≠ p := fun z => nRW (z ▸ x.wp)
    have lz' : zs.length ≤ 10000 := by omega
    have rowC : ∀ {σ : L2.St} {H : Hp}, H R = some (.lst (zs.map V.int)) → σ[3]? = some (some (.ref R)) → EvP (tVar 3) σ H (DPw K W (LI zs)) := fun h hs => epc_ev (ev_var hs) (.lst (sq_of (cw_o h nRW)) (dpa_ints zs))
    refine q_run ?_
    refine ⟨.ref p, rfl, p, q0, 8, rfl, by decide, by decide, x.pool.ex e1, fun r H2 r0 r8 o2 x2p => ?_⟩
    have x2 := (x.ex e1).oth o2 x2p
    have hR2 := o2 _ _ nRp hR1
    have o02 : Oth p H H2 := (Oth.of e1).trans o2
    -- 0
    refine q_when (et_test (ev_op (ev_var rfl) ev_c (rv_eq rfl))) (fun _ H3 e3 => ?_) (fun _ H3 e3 => ?_)
    · have x3 := x2.ex e3
      have hp := x3.isP
      exact s_retR (menuM (Φ := Wt K 6 W) (n := 10) rfl (em_lst wt_ex hp (ew_cons wt_ex (wt (epc_ev ev_c .non) (by simp [fit, fitAll, fit_ints, lz']) (by simp [allW, allWs, wordOk, ok8, ok7, allWs_ints])) (ew_cons wt_ex (wt (epc_ev ev_c (.bl _)) (by simp [fit, fitAll, fit_ints, lz']) (by simp [allW, allWs, wordOk, ok8, ok7, allWs_ints])) (ew_cons wt_ex (wt (epc_ev ev_c (.int _)) (by simp [fit, fitAll, fit_ints, lz']) (by simp [allW, allWs, wordOk, ok8, ok7, allWs_ints])) (ew_cons wt_ex (wt (epc_lst hp edc_nil (by decide)) (by simp [fit, fitAll, fit_ints, lz']) (by simp [allW, allWs, wordOk, ok8, ok7, allWs_ints])) (ew_cons wt_ex (wt (epc_tup hp edc_nil (by decide)) (by simp [fit, fitAll, fit_ints, lz']) (by simp [allW, allWs, wordOk, ok8, ok7, allWs_ints])) (ew_cons wt_ex (wt (epc_ev ev_c (.str _)) (by simp [fit, fitAll, fit_ints, lz']) (by simp [allW, allWs, wordOk, ok8, ok7, allWs_ints])) (ew_cons wt_ex (wt (epc_tup hp (edc_cons (epc_ev ev_c (.str _)) edc_nil) (by decide)) (by simp [fit, fitAll, fit_ints, lz']) (by simp [allW, allWs, wordOk, ok8, ok7, allWs_ints])) (ew_cons wt_ex (wt (epc_tup hp (edc_cons (epc_ev ev_c (.str _)) (edc_cons (epc_ev ev_c (.int _)) edc_nil)) (by decide)) (by simp [fit, fitAll, fit_ints, lz']) (by simp [allW, allWs, wordOk, ok8, ok7, allWs_ints])) (ew_cons wt_ex (wt (epc_tup hp (edc_cons (epc_ev ev_c (.int _)) (edc_cons (epc_ev ev_c (.int _)) edc_nil)) (by decide)) (by simp [fit, fitAll, fit_ints, lz']) (by simp [allW, allWs, wordOk, ok8, ok7, allWs_ints])) (ew_cons wt_ex (wt (epc_lst hp (edc_cons (epc_ev ev_c (.str _)) (edc_cons (epc_ev ev_c (.int _)) edc_nil)) (by decide)) (by simp [fit, fitAll, fit_ints, lz']) (by simp [allW, allWs, wordOk, ok8, ok7, allWs_ints])) ew_nil)))))))))) (by decide)) (by decide) (by decide) x3 (wt_oth x.wp) fun v H4 o4 x4 h => q v H4 (o02.trans ((Oth.of e3).trans o4)) x4 h)
    -- 1
    refine q_when (et_test (ev_op (ev_var rfl) ev_c (rv_eq rfl))) (fun _ H4 e4 => ?_) (fun _ H4 e4 => ?_)
    · have hR := (e3.trans e4) _ _ hR2
      have x3 := x2.ex (e3.trans e4)
      have hp := x3.isP
      refine q_run ((em_lst (n := 7) (Φ := Wt K 5 W) wt_ex hp (ew_cons wt_ex (wt (epc_elD hp (el_catV rfl hR (el_lst (ea_cons ev_c ea_nil) (by decide)) (by simp; omega)) fun H => dpa_appJ (dpa_ints zs) (.cons (.int 0) .nil)) (fit_app2 (fit_ints _ _) (by simp [fitAll, fit]) (by simp; omega)) (allW_app2 (allWs_ints _) (by simp [allWs, allW]))) (ew_cons wt_ex (wt (epc_el hp (el_tail rfl hR)) (fit_LI (by rw [List.length_drop]; omega)) (allW_LI _)) (ew_cons wt_ex (wt (ep_rowT hp rfl hR) (lv_tup (by rw [List.length_map]; omega) (fit_ints _ _)) (allW_tupI _)) (ew_cons wt_ex (wt (epc_elD hp (el_catL (el_lst (ea_cons ev_c ea_nil) (by decide)) (el_tail rfl hR) (by simp; omega)) fun H => dpa_appJ (.cons (.int 10) .nil) (dpa_ints (zs.drop 1))) (fit_app2 (by simp [fitAll, fit]) (fit_ints _ _) (by simp; omega)) (allW_app2 (by simp [allWs, allW]) (allWs_ints _))) (ew_cons wt_ex (wt (epc_elD hp (el_catL (el_lst (ea_cons ev_c ea_nil) (by decide)) (el_tail rfl hR) (by simp; omega)) fun H => dpa_appJ (.cons (.bl true) .nil) (dpa_ints (zs.drop 1))) (fit_app2 (by simp [fitAll, fit]) (fit_ints _ _) (by simp; omega)) (allW_app2 (by simp [allWs, allW]) (allWs_ints _))) (ew_cons wt_ex (wt (epc_ev ev_c .non) (by simp [fit]) (by simp [allW])) (ew_cons wt_ex (wt (epc_elD hp (el_catL (el_lst (ea_cons (ev_un ev_c ru_neg) ea_nil) (by decide)) (el_tail rfl hR) (by simp; omega)) fun H => dpa_appJ (.cons (.int (-10)) .nil) (dpa_ints (zs.drop 1))) (fit_app2 (by simp [fitAll, fit]) (fit_ints _ _) (by simp; omega)) (allW_app2 (by simp [allWs, allW]) (allWs_ints _))) ew_nil))))))) (by decide)) H4 (Ex.refl _) _ fun L vs H5 e5 hL nLp hl hv => ?_)
      have x5 := x3.ex e5
      refine q_run ?_
      refine menuM (Φ := Wt K 5 W) (te := tVar 6) (n := 7) rfl (hl ▸ em_var wt_ex rfl hL nLp hv) (by decide) (by decide) x5 (wt_oth x.wp) fun v H6 o6 x6 ⟨d, dch0, hfd, hwd⟩ => ?_
      have hp := x6.isP
      have dch : Dp K (Cw W H6) v d := dch0
      refine s_retR (menuM (Φ := Wt K 6 W) (n := 3) rfl (em_lst wt_ex hp (ew_cons wt_ex (wt (epc_tup hp (edc_cons (epc_ev ev_c (.str _)) (edc_cons (epc_ev (ev_var rfl) dch) edc_nil)) (by simp)) (by simp [fit, fitAll, fit_ints, lz', hfd]) (by simp [allW, allWs, wordOk, ok8, ok7, allWs_ints, hwd])) (ew_cons wt_ex (wt (epc_tup hp (edc_cons (epc_ev ev_c (.str _)) (edc_cons (epc_ev ev_c (.int _)) (edc_cons (epc_ev (ev_var rfl) dch) edc_nil))) (by simp)) (by simp [fit, fitAll, fit_ints, lz', hfd]) (by simp [allW, allWs, wordOk, ok8, ok7, allWs_ints, hwd])) (ew_cons wt_ex (wt (epc_tup hp (edc_cons (epc_ev ev_c (.str _)) (edc_cons (epc_ev ev_c (.int _)) (edc_cons (epc_ev (ev_var rfl) dch) (edc_cons (epc_lst hp (edc_cons (epc_lst hp edc_nil (by decide)) (edc_cons (epc_lst hp edc_nil (by decide)) edc_nil)) (by simp)) edc_nil)))) (by simp)) (by simp [fit, fitAll, fit_ints, lz', hfd]) (by simp [allW, allWs, wordOk, ok8, ok7, allWs_ints, hwd])) ew_nil))) (by decide)) (by decide) (by decide) x6 (wt_oth x.wp) fun v H7 o7 x7 h => q v H7 (o02.trans ((Oth.of (e3.trans (e4.trans e5))).trans (o6.trans o7))) x7 h)
    -- 2
    refine q_when (et_test (ev_op (ev_var rfl) ev_c (rv_eq rfl))) (fun _ F2 f2 => ?_) (fun _ F2 f2 => ?_)
    · have hR := ((e3.trans e4).trans f2) _ _ hR2
      have x3 := x2.ex ((e3.trans e4).trans f2)
      have hp := x3.isP
      refine s_retR ?_
      show tOp (rIxL K) _ _ _ _ _
      refine menuM (Φ := Wt K 5 W) (n := 6) rfl (em_lst wt_ex hp (ew_cons wt_ex (wt (epc_ev (ev_var rfl) (.int _)) (by simp [fit, fitAll, fit_ints, lz']) (by simp [allW, allWs, wordOk, ok8, ok7, allWs_ints])) (ew_cons wt_ex (wt (epc_ev (ev_un ev_c ru_neg) (.int _)) (by simp [fit, fitAll, fit_ints, lz']) (by simp [allW, allWs, wordOk, ok8, ok7, allWs_ints])) (ew_cons wt_ex (wt (epc_ev ev_c .non) (by simp [fit, fitAll, fit_ints, lz']) (by simp [allW, allWs, wordOk, ok8, ok7, allWs_ints])) (ew_cons wt_ex (wt (epc_ev ev_c (.bl _)) (by simp [fit, fitAll, fit_ints, lz']) (by simp [allW, allWs, wordOk, ok8, ok7, allWs_ints])) (ew_cons wt_ex (wt (epc_ev ev_c (.str _)) (by simp [fit, fitAll, fit_ints, lz']) (by simp [allW, allWs, wordOk, ok8, ok7, allWs_ints])) (ew_cons wt_ex (wt (epc_tup hp (edc_cons (epc_ev ev_c (.int _)) edc_nil) (by simp)) (by simp [fit, fitAll, fit_ints, lz']) (by simp [allW, allWs, wordOk, ok8, ok7, allWs_ints])) ew_nil)))))) (by decide)) (by decide) (by decide) x3 (wt_oth x.wp) fun v H5 o5 x5 ⟨d, dch, hfd, hwd⟩ => ?_
      have hp := x5.isP
      have hR := o5 _ _ nRp hR
      refine (edc_cons (rowC hR rfl) edc_nil) H5 (Ex.refl _) _ fun ws H6 e6 g => ⟨sz_of (by rw [List.length_cons, List.length_cons, dpa_len g]; simp), fun T nT => q _ _ (o02.trans ((Oth.of ((e3.trans e4).trans f2)).trans (o5.trans (.of (e6.trans (Ex.new nT)))))) (x5.ex (e6.trans (Ex.new nT))) ⟨.tuple (.str (Str.ofString "set") :: d :: _), .tup (st_of (cw_o upd_same (has_new (x5.ex e6).isP nT))) (.cons (.str _) (.cons (dpw_ex (e6.trans (Ex.new nT)) dch) (dpa_ex (cw_mono (Ex.new nT)) _ _ g))), (by simp [fit, fitAll, fit_ints, lz', hfd]), (by simp [allW, allWs, wordOk, ok8, ok7, allWs_ints, hwd])⟩⟩
    -- 3
    refine q_when (et_test (ev_op (ev_var rfl) ev_c (rv_eq rfl))) (fun _ F3 f3 => ?_) (fun _ F3 f3 => ?_)
    · have hR := (((e3.trans e4).trans f2).trans f3) _ _ hR2
      have x3 := x2.ex (((e3.trans e4).trans f2).trans f3)
      have hp := x3.isP
      refine s_retR ?_
      show tOp (rIxL K) _ _ _ _ _
      refine menuM (Φ := Wt K 5 W) (n := 5) rfl (em_lst wt_ex hp (ew_cons wt_ex (wt (epc_ev (ev_var rfl) (.int _)) (by simp [fit, fitAll, fit_ints, lz']) (by simp [allW, allWs, wordOk, ok8, ok7, allWs_ints])) (ew_cons wt_ex (wt (epc_ev (ev_un ev_c ru_neg) (.int _)) (by simp [fit, fitAll, fit_ints, lz']) (by simp [allW, allWs, wordOk, ok8, ok7, allWs_ints])) (ew_cons wt_ex (wt (epc_ev ev_c .non) (by simp [fit, fitAll, fit_ints, lz']) (by simp [allW, allWs, wordOk, ok8, ok7, allWs_ints])) (ew_cons wt_ex (wt (epc_ev ev_c (.bl _)) (by simp [fit, fitAll, fit_ints, lz']) (by simp [allW, allWs, wordOk, ok8, ok7, allWs_ints])) (ew_cons wt_ex (wt (epc_ev ev_c (.str _)) (by simp [fit, fitAll, fit_ints, lz']) (by simp [allW, allWs, wordOk, ok8, ok7, allWs_ints])) ew_nil))))) (by decide)) (by decide) (by decide) x3 (wt_oth x.wp) fun v H5 o5 x5 ⟨d, dch, hfd, hwd⟩ => ?_
      have hp := x5.isP
      have hR := o5 _ _ nRp hR
      refine (edc_cons (rowC hR rfl) (edc_cons (epc_lst hp (edc_cons (epc_lst hp edc_nil (by simp)) (edc_cons (epc_lst hp edc_nil (by simp)) edc_nil)) (by simp)) edc_nil)) H5 (Ex.refl _) _ fun ws H6 e6 g => ⟨sz_of (by rw [List.length_cons, List.length_cons, dpa_len g]; simp), fun T nT => q _ _ (o02.trans ((Oth.of (((e3.trans e4).trans f2).trans f3)).trans (o5.trans (.of (e6.trans (Ex.new nT)))))) (x5.ex (e6.trans (Ex.new nT))) ⟨.tuple (.str (Str.ofString "call") :: d :: _), .tup (st_of (cw_o upd_same (has_new (x5.ex e6).isP nT))) (.cons (.str _) (.cons (dpw_ex (e6.trans (Ex.new nT)) dch) (dpa_ex (cw_mono (Ex.new nT)) _ _ g))), (by simp [fit, fitAll, fit_ints, lz', hfd]), (by simp [allW, allWs, wordOk, ok8, ok7, allWs_ints, hwd])⟩⟩
    -- 4
    refine q_when (et_test (ev_op (ev_var rfl) ev_c (rv_eq rfl))) (fun _ F4 f4 => ?_) (fun _ F4 f4 => ?_)
    · have hR := ((((e3.trans e4).trans f2).trans f3).trans f4) _ _ hR2
      have x3 := x2.ex ((((e3.trans e4).trans f2).trans f3).trans f4)
      have hp := x3.isP
      refine q_run ?_
      refine menuM (Φ := Wt K 5 W) (n := 8) rfl (em_lst wt_ex hp (ew_cons wt_ex (wt (epc_tup hp (edc_cons (epc_ev ev_c (.int _)) edc_nil) (by simp)) (by simp [fit, fitAll, fit_ints, lz']) (by simp [allW, allWs, wordOk, ok8, ok7, allWs_ints])) (ew_cons wt_ex (wt (epc_lst hp (edc_cons (epc_ev (ev_var rfl) (.int _)) edc_nil) (by simp)) (by simp [fit, fitAll, fit_ints, lz']) (by simp [allW, allWs, wordOk, ok8, ok7, allWs_ints])) (ew_cons wt_ex (wt (epc_lst hp (edc_cons (epc_ev (ev_un ev_c ru_neg) (.int _)) edc_nil) (by simp)) (by simp [fit, fitAll, fit_ints, lz']) (by simp [allW, allWs, wordOk, ok8, ok7, allWs_ints])) (ew_cons wt_ex (wt (epc_lst hp (edc_cons (epc_ev ev_c (.int _)) (edc_cons (epc_ev ev_c (.int _)) edc_nil)) (by simp)) (by simp [fit, fitAll, fit_ints, lz']) (by simp [allW, allWs, wordOk, ok8, ok7, allWs_ints])) (ew_cons wt_ex (wt (epc_lst hp (edc_cons (epc_ev ev_c (.bl _)) edc_nil) (by simp)) (by simp [fit, fitAll, fit_ints, lz']) (by simp [allW, allWs, wordOk, ok8, ok7, allWs_ints])) (ew_cons wt_ex (wt (epc_ev ev_c .non) (by simp [fit, fitAll, fit_ints, lz']) (by simp [allW, allWs, wordOk, ok8, ok7, allWs_ints])) (ew_cons wt_ex (wt (epc_lst hp (edc_cons (epc_ev ev_c .non) edc_nil) (by simp)) (by simp [fit, fitAll, fit_ints, lz']) (by simp [allW, allWs, wordOk, ok8, ok7, allWs_ints])) (ew_cons wt_ex (wt (epc_ev ev_c (.int _)) (by simp [fit, fitAll, fit_ints, lz']) (by simp [allW, allWs, wordOk, ok8, ok7, allWs_ints])) ew_nil)))))))) (by decide)) (by decide) (by decide) x3 (wt_oth x.wp) fun v H5 o5 x5 ⟨d, dch0, hfd, hwd⟩ => ?_
      have hp := x5.isP
      have hR := o5 _ _ nRp hR
      have dch : Dp K (Cw W H5) v d := dch0
      exact s_retR ((epc_tup hp (edc_cons (epc_ev ev_c (.str _)) (edc_cons (epc_ev (ev_var rfl) dch) (edc_cons (epc_lst hp edc_nil (by simp)) edc_nil))) (by simp)) H5 (Ex.refl _) _ fun v H6 e6 h => q v H6 (o02.trans ((Oth.of ((((e3.trans e4).trans f2).trans f3).trans f4)).trans (o5.trans (.of e6)))) (x5.ex e6) ⟨_, h, (by simp [fit, fitAll, fit_ints, lz', hfd]), (by simp [allW, allWs, wordOk, ok8, ok7, allWs_ints, hwd])⟩)
    -- 5
    refine q_when (et_test (ev_op (ev_var rfl) ev_c (rv_eq rfl))) (fun _ F5 f5 => ?_) (fun _ F5 f5 => ?_)
    · have hR := (((((e3.trans e4).trans f2).trans f3).trans f4).trans f5) _ _ hR2
      have x3 := x2.ex (((((e3.trans e4).trans f2).trans f3).trans f4).trans f5)
      have hp := x3.isP
      refine s_retR ?_
      show tOp (rIxL K) _ _ _ _ _
      refine menuM (Φ := Wt K 5 W) (n := 6) rfl (em_lst wt_ex hp (ew_cons wt_ex (wt (epc_ev ev_c (.int _)) (by simp [fit, fitAll, fit_ints, lz']) (by simp [allW, allWs, wordOk, ok8, ok7, allWs_ints])) (ew_cons wt_ex (wt (epc_ev (ev_un ev_c ru_neg) (.int _)) (by simp [fit, fitAll, fit_ints, lz']) (by simp [allW, allWs, wordOk, ok8, ok7, allWs_ints])) (ew_cons wt_ex (wt (epc_ev ev_c (.bl _)) (by simp [fit, fitAll, fit_ints, lz']) (by simp [allW, allWs, wordOk, ok8, ok7, allWs_ints])) (ew_cons wt_ex (wt (epc_ev ev_c .non) (by simp [fit, fitAll, fit_ints, lz']) (by simp [allW, allWs, wordOk, ok8, ok7, allWs_ints])) (ew_cons wt_ex (wt (epc_ev ev_c (.str _)) (by simp [fit, fitAll, fit_ints, lz']) (by simp [allW, allWs, wordOk, ok8, ok7, allWs_ints])) (ew_cons wt_ex (wt (epc_lst hp (edc_cons (epc_ev ev_c (.int _)) edc_nil) (by simp)) (by simp [fit, fitAll, fit_ints, lz']) (by simp [allW, allWs, wordOk, ok8, ok7, allWs_ints])) ew_nil)))))) (by decide)) (by decide) (by decide) x3 (wt_oth x.wp) fun v H5 o5 x5 ⟨d, dch, hfd, hwd⟩ => ?_
      have hp := x5.isP
      have hR := o5 _ _ nRp hR
      refine edc_nil H5 (Ex.refl _) _ fun ws H6 e6 g => ⟨sz_of (by rw [List.length_cons, List.length_cons, dpa_len g]; simp), fun T nT => q _ _ (o02.trans ((Oth.of (((((e3.trans e4).trans f2).trans f3).trans f4).trans f5)).trans (o5.trans (.of (e6.trans (Ex.new nT)))))) (x5.ex (e6.trans (Ex.new nT))) ⟨.tuple (.str (Str.ofString "end") :: d :: _), .tup (st_of (cw_o upd_same (has_new (x5.ex e6).isP nT))) (.cons (.str _) (.cons (dpw_ex (e6.trans (Ex.new nT)) dch) (dpa_ex (cw_mono (Ex.new nT)) _ _ g))), (by simp [fit, fitAll, fit_ints, lz', hfd]), (by simp [allW, allWs, wordOk, ok8, ok7, allWs_ints, hwd])⟩⟩
    -- 6
    refine q_when (et_test (ev_op (ev_var rfl) ev_c (rv_eq rfl))) (fun _ F6 f6 => ?_) (fun _ F6 f6 => ?_)
    · have hR := ((((((e3.trans e4).trans f2).trans f3).trans f4).trans f5).trans f6) _ _ hR2
      have x3 := x2.ex ((((((e3.trans e4).trans f2).trans f3).trans f4).trans f5).trans f6)
      have hp := x3.isP
      refine q_run ?_
      refine menuM (Φ := Wt K 5 W) (n := 6) rfl (em_lst wt_ex hp (ew_cons wt_ex (wt (epc_lst hp (edc_cons (epc_lst hp edc_nil (by simp)) edc_nil) (by simp)) (by simp [fit, fitAll, fit_ints, lz']) (by simp [allW, allWs, wordOk, ok8, ok7, allWs_ints])) (ew_cons wt_ex (wt (epc_lst hp (edc_cons (epc_lst hp edc_nil (by simp)) (edc_cons (epc_lst hp edc_nil (by simp)) (edc_cons (epc_lst hp edc_nil (by simp)) edc_nil))) (by simp)) (by simp [fit, fitAll, fit_ints, lz']) (by simp [allW, allWs, wordOk, ok8, ok7, allWs_ints])) (ew_cons wt_ex (wt (epc_tup hp (edc_cons (epc_lst hp edc_nil (by simp)) (edc_cons (epc_lst hp edc_nil (by simp)) edc_nil)) (by simp)) (by simp [fit, fitAll, fit_ints, lz']) (by simp [allW, allWs, wordOk, ok8, ok7, allWs_ints])) (ew_cons wt_ex (wt (epc_lst hp (edc_cons (epc_lst hp edc_nil (by simp)) (edc_cons (epc_ev ev_c .non) edc_nil)) (by simp)) (by simp [fit, fitAll, fit_ints, lz']) (by simp [allW, allWs, wordOk, ok8, ok7, allWs_ints])) (ew_cons wt_ex (wt (epc_lst hp (edc_cons (epc_tup hp edc_nil (by simp)) (edc_cons (epc_lst hp edc_nil (by simp)) edc_nil)) (by simp)) (by simp [fit, fitAll, fit_ints, lz']) (by simp [allW, allWs, wordOk, ok8, ok7, allWs_ints])) (ew_cons wt_ex (wt (epc_ev ev_c .non) (by simp [fit, fitAll, fit_ints, lz']) (by simp [allW, allWs, wordOk, ok8, ok7, allWs_ints])) ew_nil)))))) (by decide)) (by decide) (by decide) x3 (wt_oth x.wp) fun v H5 o5 x5 ⟨d, dch0, hfd, hwd⟩ => ?_
      have hp := x5.isP
      have hR := o5 _ _ nRp hR
      have dch : Dp K (Cw W H5) v d := dch0
      exact s_retR ((epc_tup hp (edc_cons (epc_ev ev_c (.str _)) (edc_cons (epc_ev ev_c (.int _)) (edc_cons (rowC hR rfl) (edc_cons (epc_ev (ev_var rfl) dch) edc_nil)))) (by simp)) H5 (Ex.refl _) _ fun v H6 e6 h => q v H6 (o02.trans ((Oth.of ((((((e3.trans e4).trans f2).trans f3).trans f4).trans f5).trans f6)).trans (o5.trans (.of e6)))) (x5.ex e6) ⟨_, h, (by simp [fit, fitAll, fit_ints, lz', hfd]), (by simp [allW, allWs, wordOk, ok8, ok7, allWs_ints, hwd])⟩)
    -- 7
    have hR := ((((((e3.trans e4).trans f2).trans f3).trans f4).trans f5).trans f6) _ _ hR2
    have x3 := x2.ex ((((((e3.trans e4).trans f2).trans f3).trans f4).trans f5).trans f6)
    have hp := x3.isP
    refine q_run ((em_lst (n := 6) (Φ := Wt K 6 W) wt_ex hp (ew_cons wt_ex (wt (epc_tup hp (edc_cons (epc_ev ev_c (.str _)) (edc_cons (epc_tup hp edc_nil (by simp)) edc_nil)) (by simp)) (by simp [fit, fitAll, fit_ints, lz']) (by simp [allW, allWs, wordOk, ok8, ok7, allWs_ints])) (ew_cons wt_ex (wt (epc_tup hp (edc_cons (epc_ev ev_c (.str _)) (edc_cons (epc_lst hp edc_nil (by simp)) (edc_cons (epc_lst hp edc_nil (by simp)) edc_nil))) (by simp)) (by simp [fit, fitAll, fit_ints, lz']) (by simp [allW, allWs, wordOk, ok8, ok7, allWs_ints])) (ew_cons wt_ex (wt (epc_tup hp (edc_cons (epc_ev ev_c (.str _)) (edc_cons (epc_lst hp edc_nil (by simp)) (edc_cons (epc_ev ev_c .non) edc_nil))) (by simp)) (by simp [fit, fitAll, fit_ints, lz']) (by simp [allW, allWs, wordOk, ok8, ok7, allWs_ints])) (ew_cons wt_ex (wt (epc_tup hp (edc_cons (epc_ev ev_c (.str _)) (edc_cons (epc_lst hp edc_nil (by simp)) edc_nil)) (by simp)) (by simp [fit, fitAll, fit_ints, lz']) (by simp [allW, allWs, wordOk, ok8, ok7, allWs_ints])) (ew_cons wt_ex (wt (epc_tup hp (edc_cons (epc_ev ev_c (.str _)) (edc_cons (epc_lst hp edc_nil (by simp)) (edc_cons (epc_tup hp edc_nil (by simp)) edc_nil))) (by simp)) (by simp [fit, fitAll, fit_ints, lz']) (by simp [allW, allWs, wordOk, ok8, ok7, allWs_ints])) (ew_cons wt_ex (wt (epc_tup hp (edc_cons (epc_ev ev_c (.str _)) (edc_cons (epc_lst hp edc_nil (by simp)) edc_nil)) (by simp)) (by simp [fit, fitAll, fit_ints, lz']) (by simp [allW, allWs, wordOk, ok8, ok7, allWs_ints])) ew_nil)))))) (by decide)) F6 (Ex.refl _) _ fun L vs H5 e5 hL nLp hl hv => ?_)
    have hR := e5 _ _ hR
    have x5 := x3.ex e5
    have hp := x5.isP
    exact s_retR (menuM (Φ := Wt K 6 W) (n := 6 + 4) rfl (em_cat wt_ex hp (em_varN hl wt_ex rfl hL nLp hv) (em_lst wt_ex hp (ew_cons wt_ex (wt (epc_tup hp (edc_cons (epc_ev ev_c (.str _)) (edc_cons (rowC hR rfl) (edc_cons (rowC hR rfl) edc_nil))) (by simp)) (by simp [fit, fitAll, fit_ints, lz']) (by simp [allW, allWs, wordOk, ok8, ok7, allWs_ints])) (ew_cons wt_ex (wt (epc_tup hp (edc_cons (epc_ev ev_c (.str _)) (edc_cons (epc_ev ev_c (.int _)) edc_nil)) (by simp)) (by simp [fit, fitAll, fit_ints, lz']) (by simp [allW, allWs, wordOk, ok8, ok7, allWs_ints])) (ew_cons wt_ex (wt (epc_tup hp (edc_cons (epc_ev ev_c (.str _)) (edc_cons (epc_ev ev_c .non) edc_nil)) (by simp)) (by simp [fit, fitAll, fit_ints, lz']) (by simp [allW, allWs, wordOk, ok8, ok7, allWs_ints])) (ew_cons wt_ex (wt (epc_tup hp (edc_cons (epc_ev ev_c (.str _)) (edc_cons (epc_tup hp edc_nil (by simp)) (edc_cons (epc_lst hp edc_nil (by simp)) edc_nil))) (by simp)) (by simp [fit, fitAll, fit_ints, lz']) (by simp [allW, allWs, wordOk, ok8, ok7, allWs_ints])) ew_nil)))) (by decide)) (by decide)) (by decide) (by decide) x5 (wt_oth x.wp) fun v H7 o7 x7 h => q v H7 (o02.trans ((Oth.of (((((((e3.trans e4).trans f2).trans f3).trans f4).trans f5).trans f6).trans e5)).trans o7)) x7 h)
end
/-! ### the places of a body -/
def pre (i k : Nat) (l : List (List Int × PyData)) : List (List Int × PyData) := l.map fun e => ((i : Int) :: (k : Int) :: e.1, e.2)
mutual
def plS (i : Nat) : Stm → List (List Int × PyData)
  | .set k r => [([(i : Int)], toD (.set k r))]
  | .carry r => [([(i : Int)], toD (.carry r))]
  | .keep cs b => ([(i : Int)], toD (.keep cs b)) :: (pre i 0 (plL 0 b) ++ [])
  | .either a b => ([(i : Int)], toD (.either a b)) :: (pre i 0 (plL 0 a) ++ (pre i 1 (plL 0 b) ++ []))
  | .again b => ([(i : Int)], toD (.again b)) :: (pre i 0 (plL 0 b) ++ [])
  | .call p r a b => ([(i : Int)], toD (.call p r a b)) :: (pre i 0 (plL 0 a) ++ (pre i 1 (plL 0 b) ++ []))
  | .fin w => [([(i : Int)], toD (.fin w))]
def plL (i : Nat) : List Stm → List (List Int × PyData)
  | [] => []
  | s :: r => plS i s ++ plL (i + 1) r
end
def plBs (i : Nat) : Nat → List (List Stm) → List (List Int × PyData)
  | _, [] => []
  | k, b :: r => pre i k (plL 0 b) ++ plBs i (k + 1) r
theorem plS_blks (i : Nat) (s : Stm) : plS i s = ([(i : Int)], toD s) :: plBs i 0 (blks s) := by
  cases s <;> rw [plS] <;> rfl
theorem plL_app : ∀ (a b : List Stm) (i : Nat), plL i (a ++ b) = plL i a ++ plL (i + a.length) b
  | [], b, i => by rw [List.nil_append, plL, List.nil_append]; rfl
  | s :: r, b, i => by
    rw [List.cons_append, plL, plL, plL_app r b (i + 1), List.append_assoc, List.length_cons, show i + 1 + r.length = i + (r.length + 1) by omega]
theorem plBs_app (i : Nat) : ∀ (a b : List (List Stm)) (k : Nat), plBs i k (a ++ b) = plBs i k a ++ plBs i (k + a.length) b
  | [], b, k => by rw [List.nil_append, plBs, List.nil_append]; rfl
  | s :: r, b, k => by
    rw [List.cons_append, plBs, plBs, plBs_app i r b (k + 1), List.append_assoc, List.length_cons, show k + 1 + r.length = k + (r.length + 1) by omega]
theorem pre_len (i k : Nat) (l : List (List Int × PyData)) : (pre i k l).length = l.length := by rw [pre, List.length_map]
mutual
theorem plS_len : ∀ (s : Stm) (i : Nat), (plS i s).length = cnt s
  | .set k r, i => by rw [plS, cnt]; rfl
  | .carry r, i => by rw [plS, cnt]; rfl
  | .fin r, i => by rw [plS, cnt]; rfl
  | .keep cs b, i => by rw [plS, cnt, List.length_cons, List.length_append, pre_len, plL_len b 0]; simp; omega
  | .again b, i => by rw [plS, cnt, List.length_cons, List.length_append, pre_len, plL_len b 0]; simp; omega
  | .either a b, i => by rw [plS, cnt, List.length_cons, List.length_append, List.length_append, pre_len, pre_len, plL_len b 0, plL_len a 0]; simp; omega
  | .call p r a b, i => by rw [plS, cnt, List.length_cons, List.length_append, List.length_append, pre_len, pre_len, plL_len b 0, plL_len a 0]; simp; omega
theorem plL_len : ∀ (ss : List Stm) (i : Nat), (plL i ss).length = cntL ss
  | [], i => by rw [plL, cntL]; rfl
  | s :: r, i => by rw [plL, cntL, List.length_append, plS_len s i, plL_len r (i + 1)]
end
/-- no path is long -/
def shortP (n : Nat) (l : List (List Int × PyData)) : Prop := ∀ e ∈ l, e.1.length ≤ n
theorem shortP_app {n : Nat} {a b : List (List Int × PyData)} (h : shortP n a) (g : shortP n b) : shortP n (a ++ b) := fun e he => (List.mem_append.mp he).elim (h e) (g e)
theorem shortP_pre {n i k : Nat} {l : List (List Int × PyData)} (h : shortP n l) : shortP (n + 2) (pre i k l) := fun e he => by
  rw [pre, List.mem_map] at he
  obtain ⟨e', he, rfl⟩ := he
  have := h e' he
  simp; omega
theorem shortP_nil {n : Nat} : shortP n [] := fun e he => by cases he
theorem shortP_cons {n : Nat} {p : List Int} {d : PyData} {l : List (List Int × PyData)} (hp : p.length ≤ n) (h : shortP n l) : shortP n ((p, d) :: l) := fun e he => by
  rcases List.mem_cons.mp he with rfl | he
  · exact hp
  · exact h e he
mutual
theorem plS_short {c m : Nat} : ∀ (s : Stm) (i : Nat) {lv n : Nat}, okS c m s lv → 2 * (3 - lv) + 1 ≤ n → shortP n (plS i s)
  | .set k r, i, lv, n, h, hn => by rw [plS]; exact shortP_cons (by simp; omega) shortP_nil
  | .carry r, i, lv, n, h, hn => by rw [plS]; exact shortP_cons (by simp; omega) shortP_nil
  | .fin r, i, lv, n, h, hn => by rw [plS]; exact shortP_cons (by simp; omega) shortP_nil
  | .keep cs b, i, lv, n, h, hn => by
    rw [okS] at h; rw [plS]
    obtain ⟨j, rfl⟩ : ∃ j, n = j + 2 := ⟨n - 2, by omega⟩
    exact shortP_cons (by simp) (shortP_app (shortP_pre (plL_short b 0 h.2.2.2 (by omega))) shortP_nil)
  | .again b, i, lv, n, h, hn => by
    rw [okS] at h; rw [plS]
    obtain ⟨j, rfl⟩ : ∃ j, n = j + 2 := ⟨n - 2, by omega⟩
    exact shortP_cons (by simp) (shortP_app (shortP_pre (plL_short b 0 h.2.2 (by omega))) shortP_nil)
  | .either a b, i, lv, n, h, hn => by
    rw [okS] at h; rw [plS]
    obtain ⟨j, rfl⟩ : ∃ j, n = j + 2 := ⟨n - 2, by omega⟩
    exact shortP_cons (by simp) (shortP_app (shortP_pre (plL_short a 0 h.2.2.1 (by omega))) (shortP_app (shortP_pre (plL_short b 0 h.2.2.2.2 (by omega))) shortP_nil))
  | .call p r a b, i, lv, n, h, hn => by
    rw [okS] at h; rw [plS]
    obtain ⟨j, rfl⟩ : ∃ j, n = j + 2 := ⟨n - 2, by omega⟩
    exact shortP_cons (by simp) (shortP_app (shortP_pre (plL_short a 0 h.2.2.2.2.1 (by omega))) (shortP_app (shortP_pre (plL_short b 0 h.2.2.2.2.2.2 (by omega))) shortP_nil))
theorem plL_short {c m : Nat} : ∀ (ss : List Stm) (i : Nat) {lv n : Nat}, okL c m ss lv → 2 * (3 - lv) + 1 ≤ n → shortP n (plL i ss)
  | [], i, lv, n, h, hn => by rw [plL]; exact shortP_nil
  | s :: r, i, lv, n, h, hn => by
    rw [okL] at h; rw [plL]
    exact shortP_app (plS_short s i h.1 hn) (plL_short r (i + 1) h.2 hn)
end
/-- a statement's blocks are good, a level deeper -/
theorem blks_ok {c m lv : Nat} {s : Stm} (h : okS c m s lv) : ∀ b ∈ blks s, lv < 3 ∧ b.length ≤ 8 ∧ okL c m b (lv + 1) := by
  intro b hb
  cases s with
  | keep cs x => rw [okS] at h; have hb : b ∈ [x] := hb; rw [List.mem_singleton.mp hb]; exact ⟨h.1, h.2.2.1, h.2.2.2⟩
  | again x => rw [okS] at h; have hb : b ∈ [x] := hb; rw [List.mem_singleton.mp hb]; exact ⟨h.1, h.2.1, h.2.2⟩
  | either x y =>
    rw [okS] at h; have hb : b ∈ [x, y] := hb
    rcases List.mem_cons.mp hb with rfl | hb
    · exact ⟨h.1, h.2.1, h.2.2.1⟩
    · rw [List.mem_singleton.mp hb]; exact ⟨h.1, h.2.2.2.1, h.2.2.2.2⟩
  | call p r x y =>
    rw [okS] at h; have hb : b ∈ [x, y] := hb
    rcases List.mem_cons.mp hb with rfl | hb
    · exact ⟨h.1, h.2.2.2.1, h.2.2.2.2.1⟩
    · rw [List.mem_singleton.mp hb]; exact ⟨h.1, h.2.2.2.2.2.1, h.2.2.2.2.2.2⟩
  | _ => cases hb
theorem blks_cnt {s : Stm} {b : List Stm} (h : b ∈ blks s) : cntL b < cnt s := by
  cases s with
  | keep cs x => have hb : b ∈ [x] := h; rw [List.mem_singleton.mp hb, cnt]; omega
  | again x => have hb : b ∈ [x] := h; rw [List.mem_singleton.mp hb, cnt]; omega
  | either x y =>
    have hb : b ∈ [x, y] := h
    rw [cnt]
    rcases List.mem_cons.mp hb with rfl | hb
    · omega
    · rw [List.mem_singleton.mp hb]; omega
  | call p r x y =>
    have hb : b ∈ [x, y] := h
    rw [cnt]
    rcases List.mem_cons.mp hb with rfl | hb
    · omega
    · rw [List.mem_singleton.mp hb]; omega
  | _ => cases h
theorem cntL_mem {s : Stm} : ∀ {ss : List Stm}, s ∈ ss → cnt s ≤ cntL ss
  | t :: r, h => by
    rw [cntL]
    rcases List.mem_cons.mp h with rfl | h
    · omega
    · have := cntL_mem h; omega
section
variable {P : Program} {w : World} {K : PySem.W.Frag} {mg : Str → Option Value} {base : Heap} {σ : L2.St} {H H' H0 : Hp}
def spPl (K : PySem.W.Frag) (n : Nat) : Sp := fun vs H Q _ => ∃ (v : V) (ss : List Stm) (c m lv : Nat) (H0 : Hp), vs = [v] ∧ n = 5 - lv ∧ lv ≤ 3 ∧ Ex H0 H ∧ Dp K H0 v (.list (toDs ss)) ∧ okL c m ss lv ∧ ss.length ≤ 8 ∧ cntL ss ≤ 12 ∧
  ∀ D ys H', H D = none → Ex H H' → H' D = some (.lst ys) → Stk K H0 H' ys (plL 0 ss) → Q (.ref D) H'
theorem plBs_len (i : Nat) : ∀ (bs : List (List Stm)) (k : Nat), (∀ b ∈ bs, cntL b ≤ 12) → (plBs i k bs).length ≤ 12 * bs.length
  | [], k, _ => by rw [plBs]; simp
  | b :: r, k, h => by
    have h1 := h b (List.mem_cons_self ..)
    have h2 := plBs_len i r (k + 1) fun b hb => h b (List.mem_cons_of_mem _ hb)
    rw [plBs, List.length_append, pre_len, plL_len, List.length_cons]
    omega
theorem cntL_take (ss : List Stm) (i : Nat) : cntL (ss.take i) ≤ cntL ss := by
  have := cntL_app (ss.take i) (ss.drop i)
  rw [List.take_append_drop] at this
  omega
theorem blks_len (s : Stm) : (blks s).length ≤ 2 := by cases s <;> simp [blks]
theorem sqL_updN {a D : Addr} {xs l' : List V} {o : HO} (h : SqL K H a xs) (ne : a ≠ D) : SqL K (upd H D o) a xs := by
  rcases h with (h | ⟨o', h⟩) | h
  · exact .inl (.inl (by rw [upd_ne ne]; exact h))
  · exact .inl (.inr ⟨o', by rw [upd_ne ne]; exact h⟩)
  · exact .inr h
theorem places_step {f : Addr} {fd : FuncData} {n : Nat} (F : Fun K "places" "places" splaces f fd) (z_enumerate : mg "enumerate" = none) (Cblocks_of : Cal P w K mg base 1 "blocks_of" (spBlocks K) []) (Cplaces : Cal P w K mg base n "places" (spPl K n) []) :
    FnOk P w K mg base CX0 (n + 1) f fd ["body"] (spPl K (n + 1)) := by
  have sc := scplaces
  refine F.ok sc (fun vs H Q E h => ?_) (fun cdv A outer s H vs Q E hr h => ?_)
  · obtain ⟨v, ss, c, m, lv, H0, rfl, _⟩ := h
    rfl
  · obtain ⟨v, ss, c, m, lv, H0, rfl, hn, hlv, e0, hd, hok, hl8, hc12, q⟩ := h
    have hn1 : 1 ≤ n := by omega
    refine ⟨_, (pss_cons (ps_set (i := 1) sc.nd rfl (by first | exact Or.inl rfl | exact Or.inr rfl) (pe_lst pa_nil))
      (pss_cons (ps_for PassesOwn.never rfl (pi_enum (by rfl) z_enumerate (pa_cons (pv 0) pa_nil)) (pg_tup (by rfl) (pgs_cons (pg_name (i := 2) sc.nd rfl (by first | exact Or.inl rfl | exact Or.inr rfl)) (pgs_cons (pg_name (i := 3) sc.nd rfl (by first | exact Or.inl rfl | exact Or.inr rfl)) pgs_nil)))
      (pss_cons (ps_expr (pe_bm PySem.F.plainAttrs_list PySem.F.slot_list_append PySem.F.type_list_append mt_append (pv 1) (pa_cons (pe_tup (pa_cons (pe_tup (pa_cons (pv 2) pa_nil)) (pa_cons (pv 3) pa_nil))) pa_nil)))
      (pss_one (ps_for PassesOwn.never rfl (pi_enum (by rfl) z_enumerate (pa_cons (pe_c Cblocks_of hr (by omega) (by rfl) (pa_cons (pv 3) pa_nil)) pa_nil)) (pg_tup (by rfl) (pgs_cons (pg_name (i := 4) sc.nd rfl (by first | exact Or.inl rfl | exact Or.inr rfl)) (pgs_cons (pg_name (i := 5) sc.nd rfl (by first | exact Or.inl rfl | exact Or.inr rfl)) pgs_nil)))
      (pss_one (ps_for PassesOwn.never rfl (pi_list (pe_c Cplaces hr (by omega) (by rfl) (pa_cons (pv 5) pa_nil))) (pg_tup (by rfl) (pgs_cons (pg_name (i := 6) sc.nd rfl (by first | exact Or.inl rfl | exact Or.inr rfl)) (pgs_cons (pg_name (i := 7) sc.nd rfl (by first | exact Or.inl rfl | exact Or.inr rfl)) pgs_nil)))
      (pss_one (ps_expr (pe_bm PySem.F.plainAttrs_list PySem.F.slot_list_append PySem.F.type_list_append mt_append (pv 1) (pa_cons (pe_tup (pa_cons (pe_tup (pa_cons (pv 2) (pa_cons (pv 4) (pa_starK (K := K) rfl (pv 6) pa_nil)))) (pa_cons (pv 7) pa_nil))) pa_nil))))))))))
      (pss_one (ps_ret (pv 1))))), ?_⟩
    obtain ⟨b, xs, rfl, hb, hx⟩ := dp_lst hd
    have lx := dpa_len hx
    rw [toDs_len] at lx
    refine q_asgL (el_lst ea_nil (by decide)) fun D H1 nD e1 hD => ?_
    refine ⟨.ref b, rfl, b, xs, rfl, ex_l (e0.trans e1) hb, ?_⟩
    refine for_it walk_enum (fun i σ' H' => ∃ (x2 x3 x4 x5 x6 x7 : Option V) (ys : List V), σ' = [some (.ref b), some (.ref D), x2, x3, x4, x5, x6, x7] ∧ Ex H H' ∧ H' D = some (.lst ys) ∧ Stk K H0 H' ys (plL 0 (ss.take i)))
      ⟨none, none, none, none, none, none, [], rfl, e1, hD, .nil⟩ (fun i σ' H' _ ⟨_, _, _, _, _, _, _, _, e, _⟩ => ex_l (e0.trans e) hb) (fun i x σ' H' H'' hi hP y => ?_) (fun σ' H' hP => ?_)
    · obtain ⟨x2, x3, x4, x5, x6, x7, ys, rfl, eH, hD, hS⟩ := hP
      obtain ⟨T, x, y, rfl, nT, rfl, hx', hy⟩ := y
      cases hx'
      have eT := Ex.new (o := .tup [.int (i : Nat), y]) nT
      have his : i < ss.length := by omega
      have hgs : ss[i]? = some ss[i] := List.getElem?_eq_getElem his
      have hoks := okL_mem hok (List.getElem_mem his)
      have hcs := cntL_mem (List.getElem_mem his)
      generalize ss[i] = s at hgs hoks hcs
      have hgd : (toDs ss)[i]? = some (toD s) := by rw [toDs_map, List.getElem?_map, hgs]; rfl
      obtain ⟨y', hy', dy⟩ := dpa_get hx hgd
      have hyy : some y' = some y := hy'.symm.trans hy
      cases hyy
      refine ⟨T, _, rfl, st_of upd_same, rfl, _, _, rfl, _, _, rfl, rfl, ?_⟩
      dsimp only
      have eH1 := eH.trans eT
      have hD1 := eT _ _ hD
      have hS1 := stk_ex hS eT
      have lS := paired_len hS
      rw [plL_len] at lS
      have lS2 := cntL_take ss i
      generalize upd H' T (.tup [.int (i : Nat), y]) = H1 at eH1 hD1 hS1 ⊢
      refine ⟨.ref D, rfl, .inl ⟨rfl, _, sq_of hD1⟩, ?_⟩
      refine ⟨.int (i : Nat), rfl, (by show 1 ≤ sizeLine; decide), fun T1 n1 => ?_⟩
      refine ⟨y, rfl, (by show 2 ≤ sizeLine; decide), fun T2 n2 => ?_⟩
      have ea := Ex.new (o := .tup [V.int (i : Nat)]) n1
      have eb := Ex.new (o := .tup [V.ref T1, y]) n2
      have eab := ea.trans eb
      refine ⟨D, ys, .ref T2, rfl, rfl, eab _ _ hD1, sz_lt (by omega), ?_⟩
      have hT : StkT K H0 (upd (upd H1 T1 (.tup [.int (i : Nat)])) T2 (.tup [.ref T1, y])) (.ref T2) ([(i : Int)], toD s) := ⟨y, ⟨T2, T1, rfl, st_of upd_same, st_of (eb _ _ upd_same)⟩, dy⟩
      have hD3 := eab _ _ hD1
      have hS3 : Stk K H0 _ (ys ++ [V.ref T2]) (plL 0 (ss.take i) ++ [([(i : Int)], toD s)]) := paired_app (stk_updL (l' := ys ++ [V.ref T2]) (stk_ex hS1 eab) hD3) (stk_updL (l' := ys ++ [V.ref T2]) (.cons hT .nil) hD3)
      have eH3 := (eH1.trans eab).mut (o := .lst (ys ++ [V.ref T2])) nD
      have hD4 : (upd (upd (upd H1 T1 (.tup [.int (i : Nat)])) T2 (.tup [.ref T1, y])) D (.lst (ys ++ [V.ref T2]))) D = some (.lst (ys ++ [V.ref T2])) := upd_same
      generalize upd (upd (upd H1 T1 (.tup [.int (i : Nat)])) T2 (.tup [.ref T1, y])) D (.lst (ys ++ [V.ref T2])) = H4 at hS3 eH3 hD4 ⊢
      refine ⟨y, rfl, y, toD s, c, m, H0, rfl, e0.trans eH3, dy, stm_okD hoks, fun B bs H5 nB e5 hB hxb => ?_⟩
      have hBD : B ≠ D := fun e => by rw [e] at nB; rw [nB] at hD4; cases hD4
      refine ⟨B, bs, rfl, sq_of hB, ?_⟩
      rw [blocks_toD] at hxb
      have lbs := dpa_len hxb
      rw [List.length_map] at lbs
      have lb2 := blks_len s
      refine for_it walk_enum (fun k σ' H' => ∃ (x4 x5 x6 x7 : Option V) (ys : List V), σ' = [some (.ref b), some (.ref D), some (.int (i : Nat)), some y, x4, x5, x6, x7] ∧ Ex H H' ∧ H' D = some (.lst ys) ∧ H' B = some (.lst bs) ∧ Stk K H0 H' ys (plL 0 (ss.take i) ++ (([(i : Int)], toD s) :: plBs i 0 ((blks s).take k))))
        ⟨x4, x5, x6, x7, _, rfl, eH3.trans e5, e5 _ _ hD4, hB, stk_ex hS3 e5⟩ (fun k σ' H' _ ⟨_, _, _, _, _, _, _, _, hB, _⟩ => sq_of hB) (fun k x σ' H' H'' hk hP y2 => ?_) (fun σ' H' hP => ?_)
      · obtain ⟨x4, x5, x6, x7, ys, rfl, eH, hD, hB, hS⟩ := hP
        obtain ⟨T, x, y2v, rfl, nT, rfl, hx', hy⟩ := y2
        cases hx'
        have eT := Ex.new (o := .tup [.int (k : Nat), y2v]) nT
        have hks : k < (blks s).length := by omega
        have hgs2 : (blks s)[k]? = some (blks s)[k] := List.getElem?_eq_getElem hks
        have hokb := blks_ok hoks _ (List.getElem_mem hks)
        have hcb := blks_cnt (List.getElem_mem hks)
        generalize (blks s)[k] = bk at hgs2 hokb hcb
        obtain ⟨hlv3, hb8, hokb⟩ := hokb
        have hgd2 : ((blks s).map fun b => PyData.list (toDs b))[k]? = some (.list (toDs bk)) := by rw [List.getElem?_map, hgs2]; rfl
        obtain ⟨y', hy', dy2⟩ := dpa_get hxb hgd2
        have hyy : some y' = some y2v := hy'.symm.trans hy
        cases hyy
        refine ⟨T, _, rfl, st_of upd_same, rfl, _, _, rfl, _, _, rfl, rfl, ?_⟩
        dsimp only
        have eH1 := eH.trans eT
        have hD1 := eT _ _ hD
        have hB1 := eT _ _ hB
        have hS1 := stk_ex hS eT
        generalize upd H' T (.tup [.int (k : Nat), y2v]) = H6 at eH1 hD1 hB1 hS1 ⊢
        refine ⟨y2v, rfl, y2v, bk, c, m, lv + 1, H0, rfl, by omega, by omega, e0.trans eH1, dy2, hokb, hb8, by omega, fun L zs H7 nL e7 hL hZ => ?_⟩
        have hLD : L ≠ D := fun e => by rw [e] at nL; rw [nL] at hD1; cases hD1
        refine ⟨L, rfl, ⟨zs, sq_of hL⟩, ?_⟩
        have lz := paired_len hZ
        rw [plL_len] at lz
        have hsh := plL_short bk 0 hokb (Nat.le_refl _)
        have lbase : (plL 0 (ss.take i) ++ (([(i : Int)], toD s) :: plBs i 0 ((blks s).take k))).length ≤ 100 := by
          have h1 := plBs_len i ((blks s).take k) 0 fun b hb => by
            have := blks_cnt (List.mem_of_mem_take hb)
            omega
          rw [List.length_take] at h1
          rw [List.length_append, List.length_cons, plL_len]
          omega
        refine for_it walk_list (fun j σ' H' => ∃ (x6 x7 : Option V) (ys : List V), σ' = [some (.ref b), some (.ref D), some (.int (i : Nat)), some y, some (.int (k : Nat)), some y2v, x6, x7] ∧ Ex H H' ∧ H' D = some (.lst ys) ∧ H' B = some (.lst bs) ∧ H' L = some (.lst zs) ∧ Stk K H0 H' zs (plL 0 bk) ∧
            Stk K H0 H' ys ((plL 0 (ss.take i) ++ (([(i : Int)], toD s) :: plBs i 0 ((blks s).take k))) ++ (pre i k (plL 0 bk)).take j))
          ⟨x6, x7, ys, rfl, eH1.trans e7, e7 _ _ hD1, e7 _ _ hB1, hL, hZ, by rw [List.take_zero, List.append_nil]; exact stk_ex hS1 e7⟩ (fun j σ' H' _ ⟨_, _, _, _, _, _, _, hL, _⟩ => sq_of hL) (fun j x σ' H' H'' hj hP y3 => ?_) (fun σ' H' hP => ?_)
        · obtain ⟨x6, x7, ys, rfl, eH, hD, hB, hL, hZ, hS⟩ := hP
          obtain ⟨rfl, hxj⟩ := y3
          have hje : j < (plL 0 bk).length := by rw [plL_len]; omega
          have hge : (plL 0 bk)[j]? = some (plL 0 bk)[j] := List.getElem?_eq_getElem hje
          have hsj := hsh _ (List.getElem_mem hje)
          generalize (plL 0 bk)[j] = e at hge hsj
          obtain ⟨ep, ed⟩ := e
          have hsj : ep.length ≤ _ := hsj
          obtain ⟨v3, ⟨t3, p3, rfl, ht3, hp3⟩, dv3⟩ := paired_get hZ hxj hge
          refine ⟨t3, _, rfl, ht3, rfl, _, _, rfl, _, _, rfl, rfl, ?_⟩
          dsimp only
          refine ⟨.ref D, rfl, .inl ⟨rfl, _, sq_of hD⟩, ?_⟩
          refine ⟨.int (i : Nat), rfl, .int (k : Nat), rfl, .ref p3, rfl, p3, ep.map V.int, rfl, .inl hp3, sz_of (by simp; omega), fun T1 n1 => ?_⟩
          refine ⟨v3, rfl, (by show 2 ≤ sizeLine; decide), fun T2 n2 => ?_⟩
          have ea := Ex.new (o := .tup (V.int (i : Nat) :: V.int (k : Nat) :: (ep.map V.int ++ []))) n1
          have eb := Ex.new (o := .tup [V.ref T1, v3]) n2
          have eab := ea.trans eb
          have lS := paired_len hS
          have ltk : ((pre i k (plL 0 bk)).take j).length ≤ 12 := by rw [List.length_take, pre_len, plL_len]; omega
          rw [List.length_append] at lS
          refine ⟨D, ys, .ref T2, rfl, rfl, eab _ _ hD, sz_lt (by omega), ?_⟩
          have hD3 := eab _ _ hD
          have hT : StkT K H0 (upd (upd _ T1 (.tup (V.int (i : Nat) :: V.int (k : Nat) :: (ep.map V.int ++ [])))) T2 (.tup [.ref T1, v3])) (.ref T2) ((i : Int) :: (k : Int) :: ep, ed) := ⟨v3, ⟨T2, T1, rfl, st_of upd_same, st_of (eb _ _ (by rw [upd_same, List.append_nil]; rfl))⟩, dv3⟩
          refine ⟨_, _, ys ++ [.ref T2], rfl, (eH.trans eab).mut nD, upd_same, by rw [upd_ne hBD]; exact eab _ _ hB, by rw [upd_ne hLD]; exact eab _ _ hL, stk_updL (stk_ex hZ eab) hD3, ?_⟩
          rw [List.take_add_one, show (pre i k (plL 0 bk))[j]? = some ((i : Int) :: (k : Int) :: ep, ed) by rw [pre, List.getElem?_map, hge]; rfl, Option.toList_some, ← List.append_assoc]
          exact paired_app (stk_updL (stk_ex hS eab) hD3) (stk_updL (.cons hT .nil) hD3)
        · obtain ⟨x6, x7, ys, rfl, eH, hD, hB, hL, hZ, hS⟩ := hP
          refine ⟨_, _, _, _, ys, rfl, eH, hD, hB, ?_⟩
          rw [show (pre i k (plL 0 bk)).take zs.length = pre i k (plL 0 bk) from List.take_of_length_le (by rw [pre_len, plL_len]; omega)] at hS
          rw [List.take_add_one, hgs2, Option.toList_some, plBs_app, List.length_take, Nat.min_eq_left (by omega), Nat.zero_add, plBs, plBs, List.append_nil]
          rw [List.append_assoc, List.cons_append] at hS
          exact hS
      · obtain ⟨x4', x5', x6', x7', ys', rfl, eH', hD', _, hS'⟩ := hP
        refine ⟨_, _, _, _, _, _, ys', rfl, eH', hD', ?_⟩
        rw [show (blks s).take bs.length = blks s from List.take_of_length_le (by omega), ← plS_blks] at hS'
        rw [List.take_add_one, hgs, Option.toList_some, plL_app, List.length_take, Nat.min_eq_left (by omega), Nat.zero_add, plL, plL, List.append_nil]
        exact hS'
    · obtain ⟨x2, x3, x4, x5, x6, x7, ys, rfl, eH, hD, hS⟩ := hP
      rw [List.take_of_length_le (by omega)] at hS
      exact s_ret (ev_var rfl) fun H3 e3 => q D ys H3 nD (eH.trans e3) (e3 _ _ hD) (stk_ex hS e3)
end
section
variable {P : Program} {w : World} {K : PySem.W.Frag} {mg : Str → Option Value} {base : Heap} {σ : L2.St} {H H' H0 : Hp}
theorem ok_places {f : Addr} {fd : FuncData} (F : Fun K "places" "places" splaces f fd) (g : mg "places" = some (.ref f)) (b : Binds K fd ["body"] []) (z_enumerate : mg "enumerate" = none) (Cblocks_of : Cal P w K mg base 1 "blocks_of" (spBlocks K) []) : ∀ n, FnOk P w K mg base CX0 n f fd ["body"] (spPl K n)
  | 0 => ⟨fun _ _ _ _ ⟨_, _, _, _, lv, _, _, h, h2, _⟩ => by omega, fun _ _ _ _ _ _ _ _ _ _ _ _ _ ⟨_, _, _, _, lv, _, _, h, h2, _⟩ => by omega⟩
  | n + 1 => places_step F z_enumerate Cblocks_of ⟨f, fd, _, [], ok_places F g b z_enumerate Cblocks_of n, g, F.kp, b, .nil⟩
end
/-! ### the law's places -/
abbrev s_law_placed : Stmt := topS 48
theorem sc_law_placed : FnScope ["block", "path", "found", "at", "blocks", "number"] ["block", "path"] (defScope s_law_placed) := ⟨rfl, rfl, rfl, by decide +kernel, rfl, by decide +kernel, by decide +kernel⟩
section
variable {P : Program} {w : World} {K : PySem.W.Frag} {mg : Str → Option Value} {base : Heap} {σ : L2.St} {H H' H0 : Hp}
def plP (pp : List Int) (l : List (List Int × PyData)) : List (List Int × PyData) := l.map fun e => (pp ++ e.1, e.2)
theorem plP_pre (pp : List Int) (i k : Nat) (l : List (List Int × PyData)) : plP pp (pre i k l) = plP (pp ++ [(i : Int), (k : Int)]) l := by
  rw [plP, plP, pre, List.map_map]
  refine List.map_congr_left fun e _ => ?_
  show (pp ++ (i : Int) :: (k : Int) :: e.1, e.2) = (pp ++ [(i : Int), (k : Int)] ++ e.1, e.2)
  rw [List.append_assoc]; rfl
theorem ep_catA {ta : TA} {j : Nat} {p : Addr} {pp l : List Int} (hj : σ[j]? = some (some (.ref p))) (hp : SqT K H p (pp.map V.int)) (h : EvA ta σ H (l.map V.int)) (hl : l ≠ []) (h1 : pp.length ≤ 1000) (h2 : l.length ≤ 1000) :
    EvP (tOp (rCatA K) (tVar j) (tTup ta)) σ H (fun v H' => ∃ q, v = .ref q ∧ SqT K H' q ((pp ++ l).map V.int)) := fun H1 e Q q =>
  ⟨.ref p, hj, h H1 e _ fun H2 e2 => ⟨sz_of (by rw [List.length_map]; omega), fun T nT => by
    have eT := Ex.new (o := .tup (l.map V.int)) nT
    have sp := ex_t ((e.trans e2).trans eT) hp
    refine ⟨p, T, pp.map V.int, l.map V.int, rfl, rfl, sp, st_of upd_same, sz_of (by rw [List.length_map, List.length_map]; omega), fun h0 => ?_, fun _ h0 => ?_, fun _ _ T2 n2 => ?_⟩
    · refine q _ _ (e2.trans eT) ⟨T, rfl, ?_⟩
      rw [List.map_append, h0, List.nil_append]
      exact st_of upd_same
    · exact absurd (List.map_eq_nil_iff.mp h0) hl
    · refine q _ _ ((e2.trans eT).trans (Ex.new n2)) ⟨T2, rfl, ?_⟩
      rw [List.map_append]
      exact st_of upd_same⟩⟩
def spPlaced (K : PySem.W.Frag) (n : Nat) : Sp := fun vs H Q _ => ∃ (b p : Addr) (pp : List Int) (ss : List Stm) (c m lv : Nat) (H0 : Hp), vs = [.ref b, .ref p] ∧ n = 5 - lv ∧ lv ≤ 3 ∧ Ex H0 H ∧ Dp K H0 (.ref b) (.list (toDs ss)) ∧ SqT K H p (pp.map V.int) ∧ pp.length ≤ 100 * lv ∧ okL c m ss lv ∧ ss.length ≤ 8 ∧ cntL ss ≤ 12 ∧
  ∀ D ys H', H D = none → Ex H H' → H' D = some (.lst ys) → Stk K H0 H' ys (plP pp (plL 0 ss)) → Q (.ref D) H'
theorem placed_step {f : Addr} {fd : FuncData} {n : Nat} (F : Fun K "_law_placed" "_law_placed" s_law_placed f fd) (z_range : mg "range" = none) (z_len : mg "len" = none) (C_law_blocks : Cal P w K mg base 1 "_law_blocks" (spLBlocks K) []) (C_law_placed : Cal P w K mg base n "_law_placed" (spPlaced K n) []) :
    FnOk P w K mg base CX0 (n + 1) f fd ["block", "path"] (spPlaced K (n + 1)) := by
  have sc := sc_law_placed
  refine F.ok sc (fun vs H Q E h => ?_) (fun cdv A outer s H vs Q E hr h => ?_)
  · obtain ⟨b, p, pp, ss, c, m, lv, H0, rfl, _⟩ := h
    rfl
  · obtain ⟨b, p, pp, ss, c, m, lv, H0, rfl, hn, hlv, e0, hd, hp, hpl, hok, hl8, hc12, q⟩ := h
    have hn1 : 1 ≤ n := by omega
    refine ⟨_, (pss_cons (ps_set (i := 2) sc.nd rfl (by first | exact Or.inl rfl | exact Or.inr rfl) (pe_lst pa_nil))
      (pss_cons (ps_for PassesOwn.never rfl (pi_range1 (by rfl) z_range (pa_cons (pe_callB call_len_seq (by rfl) z_len (by decide +kernel) (pa_cons (pv 0) pa_nil)) pa_nil)) (pg_name (i := 3) sc.nd rfl (by first | exact Or.inl rfl | exact Or.inr rfl))
      (pss_cons (ps_expr (pe_bm PySem.F.plainAttrs_list PySem.F.slot_list_append PySem.F.type_list_append mt_append (pv 2) (pa_cons (pe_tup (pa_cons (pe_op op_catA (pv 1) (pe_tup (pa_cons (pv 3) pa_nil))) (pa_cons (pe_ix ix_list (pv 0) (pv 3) (fun _ _ => rfl)) pa_nil))) pa_nil)))
      (pss_cons (ps_set (i := 4) sc.nd rfl (by first | exact Or.inl rfl | exact Or.inr rfl) (pe_c C_law_blocks hr (by omega) (by rfl) (pa_cons (pe_ix ix_list (pv 0) (pv 3) (fun _ _ => rfl)) pa_nil)))
      (pss_one (ps_for PassesOwn.never rfl (pi_range1 (by rfl) z_range (pa_cons (pe_callB call_len_seq (by rfl) z_len (by decide +kernel) (pa_cons (pv 4) pa_nil)) pa_nil)) (pg_name (i := 5) sc.nd rfl (by first | exact Or.inl rfl | exact Or.inr rfl))
      (pss_one (ps_set (i := 2) sc.nd rfl (by first | exact Or.inl rfl | exact Or.inr rfl) (pe_op op_cat (pv 2) (pe_c C_law_placed hr (by omega) (by rfl) (pa_cons (pe_ix ix_list (pv 4) (pv 5) (fun _ _ => rfl)) (pa_cons (pe_op op_catA (pv 1) (pe_tup (pa_cons (pv 3) (pa_cons (pv 5) pa_nil)))) pa_nil)))))))))))
      (pss_one (ps_ret (pv 2))))), ?_⟩
    obtain ⟨b', xs, hbb, hb, hx⟩ := dp_lst hd
    cases hbb
    have lx := dpa_len hx
    rw [toDs_len] at lx
    refine q_asgL (el_lst ea_nil (by decide)) fun D H1 nD e1 hD => ?_
    refine q_forR1 (n := (ss.length : Int)) (ea_cons (ev_is (ev_lenS (ev_var rfl) (.inl (ex_l (e0.trans e1) hb))) (by rw [lx])) ea_nil) ⟨by omega, by omega⟩
      (fun i σ' H' => ∃ (D : Addr) (ys : List V) (x3 x4 x5 : Option V), σ' = [some (.ref b), some (.ref p), some (.ref D), x3, x4, x5] ∧ H D = none ∧ Ex H H' ∧ H' D = some (.lst ys) ∧ Stk K H0 H' ys (plP pp (plL 0 (ss.take i))))
      (fun H2 e2 => ⟨D, [], none, none, none, rfl, nD, e1.trans e2, e2 _ _ hD, .nil⟩) (fun i σ' H' hi hP => ?_) (fun σ' H' hP => ?_)
    · obtain ⟨D, ys, x3, x4, x5, rfl, nD, eH, hD, hS⟩ := hP
      have his : i < ss.length := by omega
      have hgs : ss[i]? = some ss[i] := List.getElem?_eq_getElem his
      have hoks := okL_mem hok (List.getElem_mem his)
      have hcs := cntL_mem (List.getElem_mem his)
      generalize ss[i] = s at hgs hoks hcs
      have hgd : (toDs ss)[i]? = some (toD s) := by rw [toDs_map, List.getElem?_map, hgs]; rfl
      obtain ⟨y, hy, dy⟩ := dpa_get hx hgd
      have lS := paired_len hS
      rw [plP, List.length_map, plL_len] at lS
      have lS2 := cntL_take ss i
      refine ⟨.ref D, rfl, .inl ⟨rfl, _, sq_of hD⟩, ?_⟩
      refine ep_catA (l := [(i : Int)]) rfl (ex_t eH hp) (ea_cons (ev_var rfl) ea_nil) (by simp) (by omega) (by show 1 ≤ 1000; decide) H' (Ex.refl H') _ fun v1 H2 e2 hq1 => ?_
      obtain ⟨q1, rfl, hq1⟩ := hq1
      refine ⟨.ref b, rfl, .int (i : Int), rfl, b, xs, (i : Int), y, rfl, rfl, ex_l (e0.trans (eH.trans e2)) hb, atI_nat hy, (by show 2 ≤ sizeLine; decide), fun T2 n2 => ?_⟩
      have eb := Ex.new (o := .tup [V.ref q1, y]) n2
      have eab := e2.trans eb
      refine ⟨D, ys, .ref T2, rfl, rfl, eab _ _ hD, sz_lt (by omega), ?_⟩
      have hD3 := eab _ _ hD
      have hT : StkT K H0 (upd H2 T2 (.tup [.ref q1, y])) (.ref T2) (pp ++ [(i : Int)], toD s) := ⟨y, ⟨T2, q1, rfl, st_of upd_same, ex_t eb hq1⟩, dy⟩
      have hS3 : Stk K H0 _ (ys ++ [V.ref T2]) (plP pp (plL 0 (ss.take i)) ++ [(pp ++ [(i : Int)], toD s)]) := paired_app (stk_updL (l' := ys ++ [V.ref T2]) (stk_ex hS eab) hD3) (stk_updL (l' := ys ++ [V.ref T2]) (.cons hT .nil) hD3)
      have eH3 := (eH.trans eab).mut (o := .lst (ys ++ [V.ref T2])) nD
      have hD4 : (upd (upd H2 T2 (.tup [.ref q1, y])) D (.lst (ys ++ [V.ref T2]))) D = some (.lst (ys ++ [V.ref T2])) := upd_same
      generalize upd (upd H2 T2 (.tup [.ref q1, y])) D (.lst (ys ++ [V.ref T2])) = H4 at hS3 eH3 hD4 ⊢
      dsimp only
      refine q_run ?_
      refine ⟨.ref b, rfl, .int (i : Int), rfl, b, xs, (i : Int), y, rfl, rfl, ex_l (e0.trans eH3) hb, atI_nat hy, y, toD s, c, m, H0, rfl, e0.trans eH3, dy, stm_okD hoks, fun B bs H5 e5 hB hxb => ?_⟩
      rw [blocks_toD] at hxb
      have lbs := dpa_len hxb
      rw [List.length_map] at lbs
      have lb2 := blks_len s
      refine s_forR1 (n := (bs.length : Int)) (ea_cons (ev_lenS (ev_var rfl) (.inl hB)) ea_nil) ⟨by omega, by omega⟩
        (fun k σ' H' => ∃ (D : Addr) (ys : List V) (x5 : Option V), σ' = [some (.ref b), some (.ref p), some (.ref D), some (.int (i : Int)), some (.ref B), x5] ∧ H D = none ∧ Ex H H' ∧ SqL K H' B bs ∧ H' D = some (.lst ys) ∧ Stk K H0 H' ys (plP pp (plL 0 (ss.take i) ++ (([(i : Int)], toD s) :: plBs i 0 ((blks s).take k)))))
        (fun H6 e6 => ⟨D, _, x5, rfl, nD, (eH3.trans e5).trans e6, ex_l e6 hB, e6 _ _ (e5 _ _ hD4), ?_⟩) (fun k σ' H' hk hP => ?_) (fun σ' H' hP => ?_)
      · rw [plP, List.map_append]
        exact stk_ex hS3 (e5.trans e6)
      · obtain ⟨D, ys, x5, rfl, nD, eH, hB, hD, hS⟩ := hP
        have hks : k < (blks s).length := by omega
        have hgs2 : (blks s)[k]? = some (blks s)[k] := List.getElem?_eq_getElem hks
        have hokb := blks_ok hoks _ (List.getElem_mem hks)
        have hcb := blks_cnt (List.getElem_mem hks)
        generalize (blks s)[k] = bk at hgs2 hokb hcb
        obtain ⟨hlv3, hb8, hokb⟩ := hokb
        have hgd2 : ((blks s).map fun b => PyData.list (toDs b))[k]? = some (.list (toDs bk)) := by rw [List.getElem?_map, hgs2]; rfl
        obtain ⟨vk, hvk, dyk⟩ := dpa_get hxb hgd2
        have dyk0 := dyk
        obtain ⟨bb, _, rfl, _, _⟩ := dp_lst dyk
        have lS := paired_len hS
        rw [plP, List.length_map, List.length_append, List.length_cons, plL_len] at lS
        have h1 := plBs_len i ((blks s).take k) 0 fun b hb => by
          have := blks_cnt (List.mem_of_mem_take hb)
          omega
        rw [List.length_take] at h1
        refine ⟨.ref D, rfl, ?_⟩
        refine ⟨.ref B, rfl, .int (k : Int), rfl, B, bs, (k : Int), .ref bb, rfl, rfl, hB, atI_nat hvk, ?_⟩
        refine ep_catA (l := [(i : Int), (k : Int)]) rfl (ex_t eH hp) (ea_cons (ev_var rfl) (ea_cons (ev_var rfl) ea_nil)) (by simp) (by omega) (by show 2 ≤ 1000; decide) H' (Ex.refl H') _ fun v1 H2 e2 hq1 => ?_
        obtain ⟨q1, rfl, hq1⟩ := hq1
        refine ⟨bb, q1, pp ++ [(i : Int), (k : Int)], bk, c, m, lv + 1, H0, rfl, by omega, by omega, e0.trans (eH.trans e2), dyk0, hq1, by simp; omega, hokb, hb8, by omega, fun D2 ys2 H3 nD2 e3 hD2 hS2 => ?_⟩
        have e23 := e2.trans e3
        have l2 := paired_len hS2
        rw [plP, List.length_map, plL_len] at l2
        refine ⟨D, D2, ys, ys2, rfl, rfl, e23 _ _ hD, hD2, sz_of (by omega), fun T nT => ?_⟩
        have eT := Ex.new (o := .lst (ys ++ ys2)) nT
        have e2T := e23.trans eT
        refine ⟨T, ys ++ ys2, _, rfl, new_ex (eH.trans e23) nT, eH.trans e2T, ex_l e2T hB, upd_same, ?_⟩
        rw [List.take_add_one, hgs2, Option.toList_some, plBs_app, List.length_take, Nat.min_eq_left (by omega), Nat.zero_add, plBs, plBs, List.append_nil, ← List.cons_append, ← List.append_assoc, plP, List.map_append]
        refine paired_app (stk_ex hS e2T) ?_
        have hpre := plP_pre pp i k (plL 0 bk)
        rw [plP] at hpre
        rw [hpre]
        exact stk_ex hS2 eT
      · obtain ⟨D, ys, x5, rfl, nD, eH, hB, hD, hS⟩ := hP
        refine ⟨D, ys, _, _, _, rfl, nD, eH, hD, ?_⟩
        rw [show (blks s).take ((bs.length : Int).toNat) = blks s from List.take_of_length_le (by omega), ← plS_blks] at hS
        rw [List.take_add_one, hgs, Option.toList_some, plL_app, List.length_take, Nat.min_eq_left (by omega), Nat.zero_add, plL, plL, List.append_nil]
        exact hS
    · obtain ⟨D, ys, x3, x4, x5, rfl, nD, eH, hD, hS⟩ := hP
      rw [show ss.take ((ss.length : Int).toNat) = ss from List.take_of_length_le (by omega)] at hS
      exact s_ret (ev_var rfl) fun H3 e3 => q D ys H3 nD (eH.trans e3) (e3 _ _ hD) (stk_ex hS e3)
end
section
variable {P : Program} {w : World} {K : PySem.W.Frag} {mg : Str → Option Value} {base : Heap}
theorem ok_placed {f : Addr} {fd : FuncData} (F : Fun K "_law_placed" "_law_placed" s_law_placed f fd) (g : mg "_law_placed" = some (.ref f)) (b : Binds K fd ["block", "path"] []) (z_range : mg "range" = none) (z_len : mg "len" = none) (C_law_blocks : Cal P w K mg base 1 "_law_blocks" (spLBlocks K) []) : ∀ n, FnOk P w K mg base CX0 n f fd ["block", "path"] (spPlaced K n)
  | 0 => ⟨fun _ _ _ _ ⟨_, _, _, _, _, _, lv, _, _, h, h2, _⟩ => by omega, fun _ _ _ _ _ _ _ _ _ _ _ _ _ ⟨_, _, _, _, _, _, lv, _, _, h, h2, _⟩ => by omega⟩
  | n + 1 => placed_step F z_range z_len C_law_blocks ⟨f, fd, _, [], ok_placed F g b z_range z_len C_law_blocks n, g, F.kp, b, .nil⟩
end
/-! ### with things in a statement's place -/
theorem plBs_inv {i : Nat} : ∀ {bs : List (List Stm)} {k : Nat} {e : List Int × PyData}, e ∈ plBs i k bs → ∃ (j : Nat) (b : List Stm) (e' : List Int × PyData), bs[j]? = some b ∧ e' ∈ plL 0 b ∧ e.1 = (i : Int) :: ((k + j : Nat) : Int) :: e'.1
  | [], k, e, h => by rw [plBs] at h; cases h
  | b :: r, k, e, h => by
    rw [plBs] at h
    rcases List.mem_append.mp h with h | h
    · rw [pre, List.mem_map] at h
      obtain ⟨e', he, rfl⟩ := h
      exact ⟨0, b, e', rfl, he, rfl⟩
    · obtain ⟨j, b', e', h1, h2, h3⟩ := plBs_inv h
      refine ⟨j + 1, b', e', by rw [List.getElem?_cons_succ]; exact h1, h2, ?_⟩
      rw [h3, show k + 1 + j = k + (j + 1) by omega]
theorem plL_inv : ∀ {ss : List Stm} {i : Nat} {e : List Int × PyData}, e ∈ plL i ss → ∃ (j : Nat) (s : Stm), ss[j]? = some s ∧ (e.1 = [((i + j : Nat) : Int)] ∨ ∃ (k : Nat) (b : List Stm) (e' : List Int × PyData), (blks s)[k]? = some b ∧ e' ∈ plL 0 b ∧ e.1 = ((i + j : Nat) : Int) :: (k : Int) :: e'.1)
  | [], i, e, h => by rw [plL] at h; cases h
  | s :: r, i, e, h => by
    rw [plL] at h
    rcases List.mem_append.mp h with h | h
    · refine ⟨0, s, rfl, ?_⟩
      rw [plS_blks] at h
      rcases List.mem_cons.mp h with rfl | h
      · exact .inl rfl
      · obtain ⟨k, b, e', h1, h2, h3⟩ := plBs_inv h
        rw [Nat.zero_add] at h3
        exact .inr ⟨k, b, e', h1, h2, h3⟩
    · obtain ⟨j, s', h1, h2⟩ := plL_inv h
      refine ⟨j + 1, s', by rw [List.getElem?_cons_succ]; exact h1, ?_⟩
      rwa [show i + (j + 1) = i + 1 + j by omega]
mutual
theorem fit_mono : ∀ (d : PyData) (n m : Nat), fit d n = true → n ≤ m → fit d m = true
  | .list xs, n, m, h, hm => by
    obtain ⟨k, rfl, l, g⟩ := fit_list h
    obtain ⟨j, rfl⟩ : ∃ j, m = j + 1 := ⟨m - 1, by omega⟩
    rw [fit, fitAll_mono xs k j g (by omega), Bool.and_true, decide_eq_true_eq]; exact l
  | .tuple xs, n, m, h, hm => by
    obtain ⟨k, rfl, l, g⟩ := fit_tuple h
    obtain ⟨j, rfl⟩ : ∃ j, m = j + 1 := ⟨m - 1, by omega⟩
    rw [fit, fitAll_mono xs k j g (by omega), Bool.and_true, decide_eq_true_eq]; exact l
  | .dict _, n, m, h, hm => by rw [fit] at h; cases h
  | .none, n, m, h, hm => by simp [fit]
  | .bool _, n, m, h, hm => by simp [fit]
  | .int _, n, m, h, hm => by simp [fit]
  | .str _, n, m, h, hm => by simp [fit]
theorem fitAll_mono : ∀ (ds : List PyData) (n m : Nat), fitAll ds n = true → n ≤ m → fitAll ds m = true
  | [], n, m, h, hm => by rw [fitAll]
  | d :: r, n, m, h, hm => by
    rw [fitAll, Bool.and_eq_true] at h
    rw [fitAll, fit_mono d n m h.1 hm, fitAll_mono r n m h.2 hm]; rfl
end
theorem fitAll_of {n : Nat} : ∀ {ds : List PyData}, (∀ d ∈ ds, fit d n = true) → fitAll ds n = true
  | [], _ => by rw [fitAll]
  | d :: r, h => by rw [fitAll, h d (List.mem_cons_self ..), fitAll_of fun d hd => h d (List.mem_cons_of_mem _ hd)]; rfl
theorem allWs_of {ok : Str → Prop} : ∀ {ds : List PyData}, (∀ d ∈ ds, allW ok d) → allWs ok ds
  | [], _ => by rw [allWs]; trivial
  | d :: r, h => by rw [allWs]; exact ⟨h d (List.mem_cons_self ..), allWs_of fun d hd => h d (List.mem_cons_of_mem _ hd)⟩
/-- data's things, one by one -/
def Gw (n : Nat) (d : PyData) : Prop := fit d n = true ∧ allW ok8 d
theorem gw_list {n : Nat} {ds : List PyData} (h : ∀ d ∈ ds, Gw n d) (l : ds.length ≤ 10000) : Gw (n + 1) (.list ds) := ⟨lv_len l (fitAll_of fun d hd => (h d hd).1), by rw [allW]; exact allWs_of fun d hd => (h d hd).2⟩
theorem gw_mono {n m : Nat} {d : PyData} (h : Gw n d) (hm : n ≤ m) : Gw m d := ⟨fit_mono d n m h.1 hm, h.2⟩
theorem gw_tup {n : Nat} {x : Str} {ds : List PyData} (hx : ok8 x) (h : ∀ d ∈ ds, Gw n d) (l : ds.length ≤ 1000) : Gw (n + 1) (.tuple (.str x :: ds)) :=
  ⟨lv_tup (by rw [List.length_cons]; omega) (fitAll_of fun d hd => (List.mem_cons.mp hd).elim (fun z => by rw [z]; simp [fit]) fun z => (h d z).1), by
    rw [allW]; exact ⟨hx, allWs_of fun d hd => (List.mem_cons.mp hd).elim (fun z => by rw [z]; simp [allW]) fun z => (h d z).2⟩⟩
theorem gw_LI {n : Nat} {l : List Int} (h : l.length ≤ 10000) : Gw (n + 1) (LI l) := ⟨fit_LI h, allW_LI l⟩
theorem gw_int {n : Nat} {i : Int} : Gw n (.int i) := ⟨by simp [fit], by simp [allW]⟩
section
variable {K : PySem.W.Frag} {σ : L2.St} {H H' Hb : Hp} {W : Addr → Prop} {p a : Addr} {ta tb te : TE}
def EvDw (K : PySem.W.Frag) (W : Addr → Prop) (ta : TA) (σ : L2.St) (H : Hp) (ds : List PyData) : Prop := ∀ H1, Ex H H1 → ∀ Q : List V → Hp → Prop, (∀ vs H2, Ex H1 H2 → DpAll K (Cw W H2) vs ds → Q vs H2) → ta σ H1 Q
theorem edw_nil : EvDw K W tNil σ H [] := fun H1 _ _ q => q [] H1 (Ex.refl H1) .nil
theorem edw_cons {tr : TA} {d : PyData} {ds : List PyData} (h : EvP te σ H (DPw K W d)) (hr : EvDw K W tr σ H ds) : EvDw K W (tCons te tr) σ H (d :: ds) := fun H1 e _ q =>
  h H1 e _ fun v H2 e2 f => hr H2 (e.trans e2) _ fun vs H3 e3 g => q (v :: vs) H3 (e2.trans e3) (.cons (dpw_ex e3 f) g)
theorem epw_tup {tr : TA} {ds : List PyData} (hp : Has W H) (h : EvDw K W tr σ H ds) (hl : ds.length ≤ 100000) : EvP (tTup tr) σ H (DPw K W (.tuple ds)) := fun H1 e _ q =>
  h H1 e _ fun vs H2 e2 g => ⟨sz_of (by rw [dpa_len g]; exact hl), fun a ha => q _ _ (e2.trans (Ex.new ha)) (.tup (st_of (cw_o upd_same (has_new (has_ex (e.trans e2) hp) ha))) (dpa_ex (cw_mono (Ex.new ha)) _ _ g))⟩
theorem epw_ev {v : V} {d : PyData} (h : Ev te σ H v) (hd : DPw K W d v H) : EvP te σ H (DPw K W d) := ep_ev h fun _ e => dpw_ex e hd
theorem dpa_takeW : ∀ {xs : List V} {ds : List PyData} (k : Nat), DpAll K H xs ds → DpAll K H (xs.take k) (ds.take k)
  | _, _, 0, _ => .nil
  | _, _, k + 1, .nil => .nil
  | _, _, k + 1, .cons a b => .cons a (dpa_takeW k b)
theorem dpa_dropW : ∀ {xs : List V} {ds : List PyData} (k : Nat), DpAll K H xs ds → DpAll K H (xs.drop k) (ds.drop k)
  | _, _, 0, h => h
  | _, _, k + 1, .nil => .nil
  | _, _, k + 1, .cons _ b => dpa_dropW k b
theorem dpa_setW {v : V} {d : PyData} (hv : Dp K H v d) : ∀ {xs : List V} {ds : List PyData} (k : Nat), DpAll K H xs ds → DpAll K H (xs.set k v) (ds.set k d)
  | _, _, _, .nil => .nil
  | _, _, 0, .cons a b => .cons hv b
  | _, _, k + 1, .cons a b => .cons a (dpa_setW hv k b)
theorem cut_to (xs : List V) {k : Nat} (h : k ≤ xs.length) : cutV xs none (some (k : Int)) = xs.take k := by
  unfold cutV
  rw [HT.sIx_none, show HT.sIx xs.length xs.length (some (k : Int)) = min k xs.length from HT.sIx_nat xs.length xs.length k]
  show (xs.drop 0).take (min k xs.length - 0) = _
  rw [List.drop_zero, Nat.sub_zero, Nat.min_eq_left h]
theorem cut_from (xs : List V) {k : Nat} (h : k ≤ xs.length) : cutV xs (some (k : Int)) none = xs.drop k := by
  unfold cutV
  rw [HT.sIx_none, show HT.sIx xs.length 0 (some (k : Int)) = min k xs.length from HT.sIx_nat xs.length 0 k, Nat.min_eq_left h]
  exact List.take_of_length_le (by rw [List.length_drop]; exact Nat.le_refl _)
theorem epw_cut {ds : List PyData} {xs : List V} {k : Nat} (hp : Has W H) (h : Ev te σ H (.ref a)) (hs : SqT K (Cw W H) a xs) (hx : DpAll K (Cw W H) xs ds) (h0 : k < ds.length) : EvP (tSl (rSlT K) te tNoPart (tPart (tC (.int (k : Int))))) σ H (DPw K W (.tuple (ds.take k))) := fun H1 e Q q => by
  refine h H1 e _ fun H2 e2 => ?_
  have lx := dpa_len hx
  refine ⟨(k : Int), rfl, a, xs, rfl, ex_t ((cw_ex.trans e).trans e2) hs, fun ⟨_, z⟩ => ?_, fun T nT => ?_⟩
  · rw [show HT.sIx xs.length xs.length (some (k : Int)) = min k xs.length from HT.sIx_nat xs.length xs.length _] at z
    omega
  · rw [cut_to xs (by omega)]
    have eT := Ex.new (o := .tup (xs.take k)) nT
    exact q _ _ (e2.trans eT) (.tup (st_of (cw_o upd_same (has_new (has_ex (e.trans e2) hp) nT))) (dpa_ex (cw_mono ((e.trans e2).trans eT)) _ _ (dpa_takeW k hx)))
theorem epw_cat {ds es : List PyData} (hp : Has W H) (h1 : EvP ta σ H (DPw K W (.tuple ds))) (h2 : EvP tb σ H (DPw K W (.tuple es))) (hd : ds ≠ []) (he : es ≠ []) (l : ds.length + es.length ≤ 1000) : EvP (tOp (rCatA K) ta tb) σ H (DPw K W (.tuple (ds ++ es))) := fun H1 e Q q =>
  h1 H1 e _ fun v H2 e2 d1 => h2 H2 (e.trans e2) _ fun w H3 e3 d2 => by
    obtain ⟨a, xs, rfl, sa, xa⟩ := dp_tup (dpw_ex e3 d1)
    obtain ⟨b, ys, rfl, sb, xb⟩ := dp_tup d2
    have lx := dpa_len xa
    have ly := dpa_len xb
    have hd' := List.length_pos_iff.mpr hd
    have he' := List.length_pos_iff.mpr he
    refine ⟨a, b, xs, ys, rfl, rfl, ex_t cw_ex sa, ex_t cw_ex sb, sz_of (by omega), fun h0 => ?_, fun _ h0 => ?_, fun _ _ T nT => ?_⟩
    · rw [h0] at lx; simp at lx; omega
    · rw [h0] at ly; simp at ly; omega
    · have eT := Ex.new (o := .tup (xs ++ ys)) nT
      exact q _ _ ((e2.trans e3).trans eT) (.tup (st_of (cw_o upd_same (has_new (has_ex ((e.trans e2).trans e3) hp) nT))) (dpa_appJ (dpa_ex (cw_mono eT) _ _ xa) (dpa_ex (cw_mono eT) _ _ xb)))
/-- tuple(list) -/
theorem epw_tupOf {ds : List PyData} {xs : List V} (hp : Has W H) (h : Ev te σ H (.ref a)) (hs : SqL K H a xs) (hx : DpAll K (Cw W H) xs ds) : EvP (tCB (fun xs H Q => ∃ p ys, xs = [.ref p] ∧ ((SqL K H p ys ∧ ∀ l, H l = none → Q (.ref l) (upd H l (.tup ys))) ∨ (SqT K H p ys ∧ Q (.ref p) H))) (tCons te tNil)) σ H (DPw K W (.tuple ds)) := fun H1 e Q q =>
  h H1 e _ fun H2 e2 => ⟨a, xs, rfl, .inl ⟨ex_l (e.trans e2) hs, fun T nT => q _ _ (e2.trans (Ex.new nT)) (.tup (st_of (cw_o upd_same (has_new (has_ex (e.trans e2) hp) nT))) (dpa_ex (cw_mono ((e.trans e2).trans (Ex.new nT))) _ _ hx))⟩⟩
theorem el_catLV {i : Nat} {L : Addr} {xs ys : List V} (h1 : EvL ta σ H xs) (h : σ[i]? = some (some (.ref L))) (hL : H L = some (.lst ys)) (hl : xs.length + ys.length ≤ 100000) : EvL (tOp rCat ta (tVar i)) σ H (xs ++ ys) := fun H1 e Q q =>
  h1 H1 e _ fun M H2 nM e2 hM => ⟨.ref L, h, M, L, xs, ys, rfl, rfl, hM, e2 _ _ (e _ _ hL), sz_of hl, fun R nR => q R _ (fresh_back e2 nR) (e2.trans (Ex.new nR)) upd_same⟩
end
def wdS : Stm → Str
  | .set _ _ => Str.ofString "set"
  | .carry _ => Str.ofString "carry"
  | .keep _ _ => Str.ofString "keep"
  | .either _ _ => Str.ofString "either"
  | .again _ => Str.ofString "again"
  | .call _ _ _ _ => Str.ofString "call"
  | .fin _ => Str.ofString "end"
theorem toD_wd (s : Stm) : ∃ r, toD s = .tuple (.str (wdS s) :: r) := by
  cases s <;> rw [toD] <;> exact ⟨_, rfl⟩
theorem gw_stm {c m lv n : Nat} {s : Stm} (h : okS c m s lv) (c3 : c ≤ 3) (hn : 14 ≤ n) : Gw n (toD s) := ⟨fit_S c3 s h (by omega), allW_S ok8_words s⟩
theorem gw_stms {c m lv n : Nat} {ss : List Stm} (h : okL c m ss lv) (c3 : c ≤ 3) (hn : 14 ≤ n) : ∀ d ∈ toDs ss, Gw n d := fun d hd => by
  rw [toDs_map, List.mem_map] at hd
  obtain ⟨s, hs, rfl⟩ := hd
  exact gw_stm (okL_mem h hs) c3 hn
theorem gw_put {n j : Nat} {ds ts : List PyData} (l8 : ds.length ≤ 8) (lt : ts.length ≤ 12) (gd : ∀ d ∈ ds, Gw n d) (gt : ∀ d ∈ ts, Gw n d) : Gw (n + 1) (.list (ds.take j ++ ts ++ ds.drop (j + 1))) :=
  gw_list (fun d hd => by
    rcases List.mem_append.mp hd with hd | hd
    · rcases List.mem_append.mp hd with hd | hd
      · exact gd d (List.mem_of_mem_take hd)
      · exact gt d hd
    · exact gd d (List.mem_of_mem_drop hd)) (by simp only [List.length_append, List.length_take, List.length_drop]; omega)
theorem gw_set {n k : Nat} {ds : List PyData} {d' : PyData} (gd : ∀ d ∈ ds, Gw n d) (g' : Gw n d') : ∀ d ∈ ds.set k d', Gw n d := fun d hd => by
  rcases List.mem_or_eq_of_mem_set hd with hd | rfl
  · exact gd d hd
  · exact g'
theorem gw_items {n m : Nat} {x : Str} {ds : List PyData} (h : Gw n (.tuple (.str x :: ds))) (hn : n ≤ m) : ∀ d ∈ ds, Gw m d := fun d hd => by
  obtain ⟨k, rfl, l, g⟩ := fit_tuple h.1
  have h2 := h.2
  rw [allW] at h2
  exact gw_mono ⟨fitAll_mem g (List.mem_cons_of_mem _ hd), allWs_mem h2.2 (List.mem_cons_of_mem _ hd)⟩ (by omega)
abbrev s_law_with : Stmt := topS 58
theorem sc_law_with : FnScope ["block", "path", "things", "at", "statement", "blocks", "changed"] ["block", "path", "things"] (defScope s_law_with) := ⟨rfl, rfl, rfl, by decide +kernel, rfl, by decide +kernel, by decide +kernel⟩
section
variable {P : Program} {w : World} {K : PySem.W.Frag} {mg : Str → Option Value} {base : Heap} {σ : L2.St} {H H' : Hp}
theorem el_put {b : Addr} {xs : List V} {j : Nat} {v : V} {tz : TE} (h0 : σ[0]? = some (some (.ref b))) (h3 : σ[3]? = some (some (.int (j : Int)))) (h6 : σ[6]? = some (some v)) (hz : Ev tz σ H (.int ((j + 1 : Nat) : Int))) (hs : SqL K H b xs) (l8 : xs.length ≤ 8) (hj : j < xs.length) :
    EvL (tOp rCat (tOp rCat (tSl (rSlL K) (tVar 0) tNoPart (tPart (tVar 3))) (tLst (tCons (tVar 6) tNil))) (tSl (rSlL K) (tVar 0) (tPart tz) tNoPart)) σ H (xs.take j ++ [v] ++ xs.drop (j + 1)) := by
  have h1 := el_sl (K := K) (ev_var h0) eo_none (eo_some (ev_var h3)) hs
  have h2 := el_sl (K := K) (ev_var h0) (eo_some hz) eo_none hs
  rw [cut_to xs (by omega)] at h1
  rw [cut_from xs (by omega)] at h2
  exact el_catL (el_catL h1 (el_lst (ea_cons (ev_var h6) ea_nil) (by show 1 ≤ 100000; decide)) (by rw [List.length_take]; show _ + 1 ≤ _; omega)) h2 (by rw [List.length_append, List.length_take, List.length_drop]; show _ + 1 + _ ≤ _; omega)
def spWith (K : PySem.W.Frag) (n : Nat) : Sp := fun vs H Q _ => ∃ (W : Addr → Prop) (b t L : Addr) (ss : List Stm) (pp : List Int) (ws : List V) (ts : List PyData) (c m lv : Nat), vs = [.ref b, .ref t, .ref L] ∧ n = 5 - lv ∧ lv ≤ 3 ∧ Has W H ∧
  DPw K W (.list (toDs ss)) (.ref b) H ∧ SqT K H t (pp.map V.int) ∧ (∃ e ∈ plL 0 ss, e.1 = pp) ∧ H L = some (.lst ws) ∧ DpAll K (Cw W H) ws ts ∧ ts.length ≤ 12 ∧ (∀ d ∈ ts, Gw 14 d) ∧ okL c m ss lv ∧ ss.length ≤ 8 ∧ c ≤ 3 ∧
  ∀ D ds H', H D = none → Ex H H' → DPw K W (.list ds) (.ref D) H' → Gw (15 + 3 * (3 - lv)) (.list ds) → Q (.ref D) H'
theorem with_step {f : Addr} {fd : FuncData} {n : Nat} (F : Fun K "_law_with" "_law_with" s_law_with f fd) (z_len : mg "len" = none) (z_list : mg "list" = none) (z_tuple : mg "tuple" = none) (C_law_blocks : Cal P w K mg base 1 "_law_blocks" (spLBlocks K) []) (C_law_with : Cal P w K mg base n "_law_with" (spWith K n) []) :
    FnOk P w K mg base CX0 (n + 1) f fd ["block", "path", "things"] (spWith K (n + 1)) := by
  have sc := sc_law_with
  refine F.ok sc (fun vs H Q E h => ?_) (fun cdv A outer s H vs Q E hr h => ?_)
  · obtain ⟨W, b, t, L, ss, pp, ws, ts, c, m, lv, rfl, _⟩ := h
    rfl
  · obtain ⟨W, b, t, L, ss, pp, ws, ts, c, m, lv, rfl, hn, hlv, hW, hd, ht, ⟨e, he, hpp⟩, hL, hw, hts, hgt, hok, hl8, c3, q⟩ := h
    have hn1 : 1 ≤ n := by omega
    refine ⟨_, (pss_cons (ps_set (i := 3) sc.nd rfl (by first | exact Or.inl rfl | exact Or.inr rfl) (pe_ix ix_tup (pv 1) pe_int (fun _ _ => rfl)))
      (pss_cons (ps_if (pt_cmpR op_eq (pe_callB call_len_seq (by rfl) z_len (by decide +kernel) (pa_cons (pv 1) pa_nil)) pe_int (nomark _))
      (pss_one (ps_ret (pe_op op_cat (pe_op op_cat (pe_slice sl_list (pv 0) po_none (po_some (pv 3))) (pv 2)) (pe_slice sl_list (pv 0) (po_some (pe_op op_add (pv 3) pe_int)) po_none))))
      pss_nil)
      (pss_cons (ps_set (i := 4) sc.nd rfl (by first | exact Or.inl rfl | exact Or.inr rfl) (pe_ix ix_list (pv 0) (pv 3) (fun _ _ => rfl)))
      (pss_cons (ps_set (i := 5) sc.nd rfl (by first | exact Or.inl rfl | exact Or.inr rfl) (pe_callTy call_list_of (by rfl) z_list (by decide +kernel) (pa_cons (pe_c C_law_blocks hr (by omega) (by rfl) (pa_cons (pv 4) pa_nil)) pa_nil)))
      (pss_cons (ps_asg (pe_c C_law_with hr (by omega) (by rfl) (pa_cons (pe_ix ix_list (pv 5) (pe_ix ix_tup (pv 1) pe_int (fun _ _ => rfl)) (fun _ _ => rfl)) (pa_cons (pe_slice sl_tup (pv 1) (po_some pe_int) po_none) (pa_cons (pv 2) pa_nil)))) (pg_sub (pv 5) (pe_ix ix_tup (pv 1) pe_int (fun _ _ => rfl)) set_list))
      (pss_cons (ps_if (pt_cmpR op_eq (pe_ix ix_tup (pv 4) pe_int (fun _ _ => rfl)) pe_str (nomark _))
      (pss_one (ps_set (i := 6) sc.nd rfl (by first | exact Or.inl rfl | exact Or.inr rfl) (pe_op op_catA (pe_slice sl_tup (pv 4) po_none (po_some pe_int)) (pe_tup (pa_cons (pv 5) pa_nil)))))
      (pss_one (ps_if (pt_cmpR op_eq (pe_ix ix_tup (pv 4) pe_int (fun _ _ => rfl)) pe_str (nomark _))
      (pss_one (ps_set (i := 6) sc.nd rfl (by first | exact Or.inl rfl | exact Or.inr rfl) (pe_op op_catA (pe_slice sl_tup (pv 4) po_none (po_some pe_int)) (pe_tup (pa_cons (pe_ix ix_list (pv 5) pe_int (fun _ _ => rfl)) pa_nil)))))
      (pss_one (ps_set (i := 6) sc.nd rfl (by first | exact Or.inl rfl | exact Or.inr rfl) (pe_op op_catA (pe_tup (pa_cons (pe_ix ix_tup (pv 4) pe_int (fun _ _ => rfl)) pa_nil)) (pe_callTy call_tuple_of (by rfl) z_tuple (by decide +kernel) (pa_cons (pv 5) pa_nil))))))))
      (pss_one (ps_ret (pe_op op_cat (pe_op op_cat (pe_slice sl_list (pv 0) po_none (po_some (pv 3))) (pe_lst (pa_cons (pv 6) pa_nil))) (pe_slice sl_list (pv 0) (po_some (pe_op op_add (pv 3) pe_int)) po_none)))))))))), ?_⟩
    obtain ⟨b', xs, hbb, hb, hx⟩ := dp_lst hd
    cases hbb
    have lx := dpa_len hx
    rw [toDs_len] at lx
    have lw := dpa_len hw
    obtain ⟨j, s, hj, hcase⟩ := plL_inv he
    rw [Nat.zero_add, hpp] at hcase
    have hjl : j < ss.length := (List.getElem?_eq_some_iff.mp hj).1
    have hoks := okL_mem hok (List.mem_of_getElem? hj)
    have hb' : ∀ {H1 : Hp}, Ex H H1 → SqL K H1 b xs := fun e => ex_l (cw_ex.trans e) hb
    rcases hcase with rfl | ⟨k, bk, e', hk, he', rfl⟩
    · refine q_asg (ev_at (j := 0) (ev_var rfl) ht rfl) fun H1 e1 => ?_
      refine q_when (b := true) (et_is (et_test (ev_op (ev_lenS (ev_var rfl) (.inr (ex_t e1 ht))) ev_c (rv_eq rfl))) rfl) (fun _ H2 e2 => ?_) fun h => (nomatch h)
      have e12 := e1.trans e2
      have h1 := el_sl (K := K) (σ := [some (.ref b), some (.ref t), some (.ref L), some (.int (j : Int)), none, none, none]) (ev_var (i := 0) rfl) eo_none (eo_some (ev_var (i := 3) rfl)) (hb' e12)
      rw [cut_to xs (by omega)] at h1
      have h2 := el_catLV (i := 2) h1 rfl (e12 _ _ hL) (by rw [List.length_take]; omega)
      refine s_retL (el_catL h2 (el_is (el_sl (ev_var rfl) (eo_some (ev_is (ev_op (ev_var rfl) ev_c rv_I0) (show V.int ((j : Int) + 1) = .int ((j + 1 : Nat) : Int) from rfl))) eo_none (hb' e12)) (cut_from xs (by omega))) (by rw [List.length_append, List.length_take, List.length_drop]; omega)) fun D H3 nD e3 hD => ?_
      have e13 := e12.trans e3
      refine q D _ H3 (fresh_back e12 nD) e13 (.lst (sq_of (cw_o hD (has_new (has_ex e12 hW) nD))) (dpa_appJ (dpa_appJ (dpa_takeW j (dpa_ex (cw_mono e13) _ _ hx)) (dpa_ex (cw_mono e13) _ _ hw)) (dpa_dropW (j + 1) (dpa_ex (cw_mono e13) _ _ hx)))) ?_
      exact gw_mono (gw_put (by rw [toDs_len]; exact hl8) hts (gw_stms hok c3 (Nat.le_refl _)) hgt) (by omega)
    · have hokb := blks_ok hoks bk (List.mem_of_getElem? hk)
      obtain ⟨lv3, bl8, okb⟩ := hokb
      have hkl := (List.getElem?_eq_some_iff.mp hk).1
      refine q_asg (ev_at (j := 0) (ev_var rfl) ht rfl) fun H1 e1 => ?_
      refine q_when (b := false) (et_is (et_test (ev_op (ev_lenS (ev_var rfl) (.inr (ex_t e1 ht))) ev_c (rv_eq rfl))) ?hl) (fun h => (nomatch h)) fun _ H2 e2 => ?_
      case hl => rw [decide_eq_false]; intro z; have z := V.int.inj z; simp at z; omega
      have e12 := e1.trans e2
      -- statement
      have hgd : (toDs ss)[j]? = some (toD s) := by rw [toDs_map, List.getElem?_map, hj]; rfl
      obtain ⟨y, hy, dy⟩ := dpa_get hx hgd
      refine q_asg (ev_op (ev_var rfl) (ev_var rfl) (rv_ixL (hb' e12) (atI_nat hy))) fun H3 e3 => ?_
      have e13 := e12.trans e3
      -- blocks
      refine q_run ?_
      refine ⟨y, rfl, y, toD s, c, m, Cw W H, rfl, cw_ex.trans e13, dy, stm_okD hoks, fun B bs H4 e4 hB hxb => ?_⟩
      rw [blocks_toD] at hxb
      have lbs := dpa_len hxb
      rw [List.length_map] at lbs
      refine ⟨B, bs, rfl, .inl hB, fun M nM => ?_⟩
      have nM0 : H M = none := fresh_back (e13.trans e4) nM
      have eM := Ex.new (o := .lst bs) nM
      have e14 := (e13.trans e4).trans eM
      have hM : upd H4 M (.lst bs) M = some (.lst bs) := upd_same
      generalize upd H4 M (.lst bs) = H5 at eM e14 hM ⊢
      have hgb : ((blks s).map fun b => PyData.list (toDs b))[k]? = some (.list (toDs bk)) := by rw [List.getElem?_map, hk]; rfl
      obtain ⟨vk, hvk, dvk⟩ := dpa_get hxb hgb
      have dvk0 := dvk
      obtain ⟨bb, _, rfl, _, _⟩ := dp_lst dvk
      have ht5 := ex_t e14 ht
      dsimp only
      -- blocks[path[1]] = _law_with(blocks[path[1]], path[2:], things)
      refine ⟨.ref M, rfl, .ref t, rfl, t, _, 1, .int (k : Int), rfl, rfl, ht5, atI_nat (j := 1) rfl, M, bs, (k : Int), .ref bb, rfl, rfl, sq_of hM, atI_nat hvk, ?_⟩
      refine ⟨.ref t, rfl, 2, rfl, t, _, rfl, ht5, fun ⟨z, _⟩ => ?_, fun T nT => ?_⟩
      · rw [show HT.sIx _ 0 (some (2 : Int)) = min 2 _ from HT.sIx_nat _ 0 2] at z
        simp at z
      have cut2 : cutV (List.map V.int ((j : Int) :: (k : Int) :: e'.1)) (some 2) none = e'.1.map V.int := cut_from _ (k := 2) (by simp)
      rw [cut2]
      have eT := Ex.new (o := .tup (e'.1.map V.int)) nT
      have hT : upd H5 T (.tup (e'.1.map V.int)) T = some (.tup (e'.1.map V.int)) := upd_same
      generalize upd H5 T (.tup (e'.1.map V.int)) = H6 at eT hT ⊢
      have e16 := e14.trans eT
      have hM6 := eT _ _ hM
      have hW6 : Has (fun a => W a ∨ a = M) H6 := fun a w => w.elim (fun w => has_ex e16 hW a w) fun z => by cases z; exact ⟨_, hM6⟩
      have up6 : Ex (Cw W H) (Cw (fun a => W a ∨ a = M) H6) := fun a o h => by
        obtain ⟨n1, h1⟩ := cw_ne h
        exact cw_o (e16 _ _ h1) fun z => z.elim n1 fun z => by rw [z, nM0] at h1; cases h1
      refine ⟨.ref L, rfl, ?_⟩
      refine ⟨fun a => W a ∨ a = M, bb, T, L, bk, e'.1, ws, ts, c, m, lv + 1, rfl, by omega, by omega, hW6, dp_ex up6 _ _ dvk0, st_of hT, ⟨e', he', rfl⟩, e16 _ _ hL, dpa_ex up6 _ _ hw, hts, hgt, okb, bl8, c3, fun D2 ds2 H7 nD2 e7 dD2 gD2 => ?_⟩
      have e17 := e16.trans e7
      have ht7 := ex_t e17 ht
      have hM7 := e7 _ _ hM6
      refine ⟨.ref M, rfl, .ref t, rfl, t, _, 1, .int (k : Int), rfl, rfl, ht7, atI_nat (j := 1) rfl, M, bs, (k : Int), k, rfl, rfl, hM7, ?_, ?_⟩
      · unfold ixN
        rw [if_pos (by omega), if_pos (by omega)]; simp
      have e18 : Ex H (upd H7 M (.lst (bs.set k (.ref D2)))) := e17.mut nM0
      have hM8 : upd H7 M (.lst (bs.set k (.ref D2))) M = some (.lst (bs.set k (.ref D2))) := upd_same
      have up8 : Ex (Cw (fun a => W a ∨ a = M) H7) (Cw W (upd H7 M (.lst (bs.set k (.ref D2))))) := fun a o h => by
        obtain ⟨n1, h1⟩ := cw_ne h
        exact cw_o (by rw [upd_ne fun z => n1 (.inr z)]; exact h1) fun z => n1 (.inl z)
      have dD8 : DPw K W (.list ds2) (.ref D2) (upd H7 M (.lst (bs.set k (.ref D2)))) := dp_ex up8 _ _ dD2
      generalize upd H7 M (.lst (bs.set k (.ref D2))) = H8 at e18 hM8 dD8 ⊢
      have hW8 := has_ex e18 hW
      have nMW : ¬ W M := has_new hW nM0
      have hxb8 : DpAll K (Cw W H8) (bs.set k (.ref D2)) (((blks s).map fun b => PyData.list (toDs b)).set k (.list ds2)) := dpa_setW dD8 k (dpa_ex (cw_mono e18) _ _ hxb)
      have hsM : SqL K H8 M (bs.set k (.ref D2)) := sq_of hM8
      have dM8 : DPw K W (.list (((blks s).map fun b => PyData.list (toDs b)).set k (.list ds2))) (.ref M) H8 := .lst (sq_of (cw_o hM8 nMW)) hxb8
      have gB : ∀ d ∈ ((blks s).map fun b => PyData.list (toDs b)).set k (.list ds2), Gw (15 + 3 * (3 - (lv + 1))) d := gw_set (fun d hd => by
        obtain ⟨b0, hb0, rfl⟩ := List.mem_map.mp hd
        obtain ⟨_, l0, ok0⟩ := blks_ok hoks b0 hb0
        exact gw_mono (gw_list (gw_stms ok0 c3 (Nat.le_refl _)) (by rw [toDs_len]; omega)) (by omega)) gD2
      have lbl := blks_len s
      have dy8 : DPw K W (toD s) y H8 := dp_ex (cw_mono e18) _ _ dy
      have fin : ∀ (v : V) (d' : PyData) (H9 : Hp), Ex H8 H9 → DPw K W d' v H9 → Gw (17 + 3 * (3 - (lv + 1))) d' → ∀ D H', H9 D = none → Ex H9 H' → H' D = some (.lst (xs.take j ++ [v] ++ xs.drop (j + 1))) → Q (.ref D) H' := fun v d' H9 e9 dv gv D H' nD e' hD => by
        have e19 := e18.trans e9
        have e1' := e19.trans e'
        refine q D _ H' (fresh_back e19 nD) e1' (.lst (sq_of (cw_o hD (has_new (has_ex e19 hW) nD))) (dpa_appJ (dpa_appJ (dpa_takeW j (dpa_ex (cw_mono e1') _ _ hx)) (.cons (dpw_ex e' dv) .nil)) (dpa_dropW (j + 1) (dpa_ex (cw_mono e1') _ _ hx)))) ?_
        exact gw_mono (gw_put (n := 17 + 3 * (3 - (lv + 1))) (by rw [toDs_len]; exact hl8) (by show 1 ≤ 12; decide) (gw_stms hok c3 (by omega)) fun d hd => by rw [List.mem_singleton.mp hd]; exact gv) (by omega)
      have hjx : j < xs.length := by omega
      have hx8 : xs.length ≤ 8 := by omega
      dsimp only
      have isW : ∀ {H9 : Hp} {ty : Addr} {r : List V} {x y : Str}, SqT K H9 ty (.str x :: r) → EvT (tTest (tOp rEq (tOp (rIxT K) (tVar 4) (tC (.int 0))) (tC (.str y)))) [some (.ref b), some (.ref t), some (.ref L), some (.int (j : Int)), some (.ref ty), some (.ref M), none] H9 (decide (V.str x = V.str y)) := fun hs => et_test (ev_op (ev_at (j := 0) (ev_var rfl) hs rfl) ev_c (rv_eq rfl))
      cases s with
      | set _ _ => cases hk
      | carry _ => cases hk
      | fin _ => cases hk
      | keep cs b0 =>
        obtain ⟨ty, va, vb, rfl, sy, pa, pb⟩ := items3 dy8
        obtain rfl : k = 0 := by have : k < 1 := hkl; omega
        have hbs : 0 < bs.length := by rw [lbs]; exact hkl
        have sy8 := ex_t cw_ex sy
        refine q_if (b := false) (et_is (isW sy8) (by decide)) (fun h => (nomatch h)) fun _ H9 e9 => ?_
        refine s_if (b := true) (et_is (isW (ex_t e9 sy8)) (by decide)) (fun _ H10 e10 => ?_) fun h => (nomatch h)
        have e8 := e9.trans e10
        refine epw_cat (has_ex e8 hW8) (epw_cut (k := 2) (has_ex e8 hW8) (ev_var rfl) (ex_t (cw_mono e8) sy) (.cons (.str _) (.cons (dpw_ex e8 pa) (.cons (dpw_ex e8 pb) .nil))) (by simp)) (epw_tup (has_ex e8 hW8) (edw_cons (epw_ev (ev_op (ev_var rfl) ev_c (rv_ixL (ex_l e8 hsM) (atI_nat (j := 0) (List.getElem?_set_self hbs)))) (dpw_ex e8 dD8)) edw_nil) (by simp)) (by simp) (by simp) (by simp) H10 (Ex.refl _) _ fun v H11 e11 dv => ?_
        refine s_retL (el_put rfl rfl rfl (ev_op (ev_var rfl) ev_c rv_I0) (hb' ((e18.trans e8).trans e11)) hx8 hjx) fun D H12 nD e12 hD => fin v _ H11 (e8.trans e11) dv ?_ D H12 nD e12 hD
        have gi := gw_items (m := 16 + 3 * (3 - (lv + 1))) (gw_stm hoks c3 (Nat.le_refl _)) (by omega)
        refine gw_mono (n := 16 + 3 * (3 - (lv + 1)) + 1) ?_ (by omega)
        exact gw_tup (n := 16 + 3 * (3 - (lv + 1))) ok8_words.2.2.1 (fun d hd => by
          rcases List.mem_cons.mp hd with rfl | hd
          · exact gi _ (List.mem_cons_self ..)
          · rw [List.mem_singleton.mp hd]; exact gw_mono gD2 (by omega)) (by simp)
      | either a0 b0 =>
        obtain ⟨ty, va, vb, rfl, sy, pa, pb⟩ := items3 dy8
        have sy8 := ex_t cw_ex sy
        refine q_if (b := false) (et_is (isW sy8) (by decide)) (fun h => (nomatch h)) fun _ H9 e9 => ?_
        refine s_if (b := false) (et_is (isW (ex_t e9 sy8)) (by decide)) (fun h => (nomatch h)) fun _ H10 e10 => ?_
        have e8 := e9.trans e10
        refine epw_cat (has_ex e8 hW8) (epw_tup (has_ex e8 hW8) (edw_cons (epw_ev (ev_at (j := 0) (ev_var rfl) (ex_t e8 sy8) rfl) (.str _)) edw_nil) (by simp)) (epw_tupOf (has_ex e8 hW8) (ev_var rfl) (ex_l e8 hsM) (dpa_ex (cw_mono e8) _ _ hxb8)) (by simp) (fun z => by have z := congrArg List.length z; rw [List.length_set, List.length_map] at z; exact (Nat.succ_ne_zero 1) z) (by rw [List.length_set, List.length_map]; show 1 + 2 ≤ 1000; decide) H10 (Ex.refl _) _ fun v H11 e11 dv => ?_
        refine s_retL (el_put rfl rfl rfl (ev_op (ev_var rfl) ev_c rv_I0) (hb' ((e18.trans e8).trans e11)) hx8 hjx) fun D H12 nD e12 hD => fin v _ H11 (e8.trans e11) dv ?_ D H12 nD e12 hD
        refine gw_mono (n := 16 + 3 * (3 - (lv + 1)) + 1) ?_ (by omega)
        exact gw_tup (n := 16 + 3 * (3 - (lv + 1))) ok8_words.2.2.2.1 (fun d hd => gw_mono (gB d hd) (by omega)) (by show (List.set _ _ _).length ≤ _; rw [List.length_set, List.length_map]; show 2 ≤ 1000; decide)
      | again b0 =>
        obtain ⟨ty, va, rfl, sy, pa⟩ := items2 dy8
        have sy8 := ex_t cw_ex sy
        refine q_if (b := false) (et_is (isW sy8) (by decide)) (fun h => (nomatch h)) fun _ H9 e9 => ?_
        refine s_if (b := false) (et_is (isW (ex_t e9 sy8)) (by decide)) (fun h => (nomatch h)) fun _ H10 e10 => ?_
        have e8 := e9.trans e10
        refine epw_cat (has_ex e8 hW8) (epw_tup (has_ex e8 hW8) (edw_cons (epw_ev (ev_at (j := 0) (ev_var rfl) (ex_t e8 sy8) rfl) (.str _)) edw_nil) (by simp)) (epw_tupOf (has_ex e8 hW8) (ev_var rfl) (ex_l e8 hsM) (dpa_ex (cw_mono e8) _ _ hxb8)) (by simp) (fun z => by have z := congrArg List.length z; rw [List.length_set, List.length_map] at z; exact (Nat.succ_ne_zero 0) z) (by rw [List.length_set, List.length_map]; show 1 + 1 ≤ 1000; decide) H10 (Ex.refl _) _ fun v H11 e11 dv => ?_
        refine s_retL (el_put rfl rfl rfl (ev_op (ev_var rfl) ev_c rv_I0) (hb' ((e18.trans e8).trans e11)) hx8 hjx) fun D H12 nD e12 hD => fin v _ H11 (e8.trans e11) dv ?_ D H12 nD e12 hD
        refine gw_mono (n := 16 + 3 * (3 - (lv + 1)) + 1) ?_ (by omega)
        exact gw_tup (n := 16 + 3 * (3 - (lv + 1))) ok8_words.2.2.2.2.1 (fun d hd => gw_mono (gB d hd) (by omega)) (by show (List.set _ _ _).length ≤ _; rw [List.length_set, List.length_map]; show 1 ≤ 1000; decide)
      | call p0 r0 a0 b0 =>
        obtain ⟨ty, va, vb, ve, rfl, sy, pa, pb, pe⟩ := items4 dy8
        have sy8 := ex_t cw_ex sy
        refine q_if (b := true) (et_is (isW sy8) (by decide)) (fun _ H9 e9 => ?_) fun h => (nomatch h)
        refine epw_cat (has_ex e9 hW8) (epw_cut (k := 3) (has_ex e9 hW8) (ev_var rfl) (ex_t (cw_mono e9) sy) (.cons (.str _) (.cons (dpw_ex e9 pa) (.cons (dpw_ex e9 pb) (.cons (dpw_ex e9 pe) .nil)))) (by simp)) (epw_tup (has_ex e9 hW8) (edw_cons (epw_ev (ev_var rfl) (dpw_ex e9 dM8)) edw_nil) (by simp)) (by simp) (by simp) (by simp) H9 (Ex.refl _) _ fun v H11 e11 dv => ?_
        refine s_retL (el_put rfl rfl rfl (ev_op (ev_var rfl) ev_c rv_I0) (hb' ((e18.trans e9).trans e11)) hx8 hjx) fun D H12 nD e12 hD => fin v _ H11 (e9.trans e11) dv ?_ D H12 nD e12 hD
        have gi := gw_items (m := 16 + 3 * (3 - (lv + 1))) (gw_stm hoks c3 (Nat.le_refl _)) (by omega)
        refine gw_mono (n := 16 + 3 * (3 - (lv + 1)) + 1) ?_ (by omega)
        exact gw_tup (n := 16 + 3 * (3 - (lv + 1))) ok8_words.2.2.2.2.2.1 (fun d hd => by
          rcases List.mem_cons.mp hd with rfl | hd
          · exact gi _ (List.mem_cons_self ..)
          rcases List.mem_cons.mp hd with rfl | hd
          · exact gi _ (List.mem_cons_of_mem _ (List.mem_cons_self ..))
          · rw [List.mem_singleton.mp hd]; exact gw_mono (gw_list gB (by rw [List.length_set, List.length_map]; show 2 ≤ 10000; decide)) (by omega)) (by simp)
theorem ok_with {f : Addr} {fd : FuncData} (F : Fun K "_law_with" "_law_with" s_law_with f fd) (g : mg "_law_with" = some (.ref f)) (b : Binds K fd ["block", "path", "things"] []) (z_len : mg "len" = none) (z_list : mg "list" = none) (z_tuple : mg "tuple" = none) (C_law_blocks : Cal P w K mg base 1 "_law_blocks" (spLBlocks K) []) : ∀ n, FnOk P w K mg base CX0 n f fd ["block", "path", "things"] (spWith K n)
  | 0 => ⟨fun _ _ _ _ ⟨_, _, _, _, _, _, _, _, _, _, lv, _, h, h2, _⟩ => by omega, fun _ _ _ _ _ _ _ _ _ _ _ _ _ ⟨_, _, _, _, _, _, _, _, _, _, lv, _, h, h2, _⟩ => by omega⟩
  | n + 1 => with_step F z_len z_list z_tuple C_law_blocks ⟨f, fd, _, [], ok_with F g b z_len z_list z_tuple C_law_blocks n, g, F.kp, b, .nil⟩
end
/-! ### all places are statements -/
/-- what stands at a place -/
def AtS (c m : Nat) (e : List Int × PyData) : Prop := e.1 ≠ [] ∧ ∃ s lv, e.2 = toD s ∧ okS c m s lv
def AtAll (c m : Nat) (l : List (List Int × PyData)) : Prop := ∀ e ∈ l, AtS c m e
theorem ata_nil {c m : Nat} : AtAll c m [] := fun e he => by cases he
theorem ata_app {c m : Nat} {a b : List (List Int × PyData)} (h : AtAll c m a) (g : AtAll c m b) : AtAll c m (a ++ b) := fun e he => (List.mem_append.mp he).elim (h e) (g e)
theorem ata_pre {c m i k : Nat} {l : List (List Int × PyData)} (h : AtAll c m l) : AtAll c m (pre i k l) := fun e he => by
  rw [pre, List.mem_map] at he
  obtain ⟨e', he, rfl⟩ := he
  exact ⟨by simp, (h e' he).2⟩
theorem ata_cons {c m i lv : Nat} {s : Stm} {l : List (List Int × PyData)} (hs : okS c m s lv) (h : AtAll c m l) : AtAll c m (([(i : Int)], toD s) :: l) := fun e he => by
  rcases List.mem_cons.mp he with rfl | he
  · exact ⟨by simp, s, lv, rfl, hs⟩
  · exact h e he
mutual
theorem plS_at {c m : Nat} : ∀ (s : Stm) (i lv : Nat), okS c m s lv → AtAll c m (plS i s)
  | .set k r, i, lv, h => by rw [plS]; exact ata_cons h ata_nil
  | .carry r, i, lv, h => by rw [plS]; exact ata_cons h ata_nil
  | .fin r, i, lv, h => by rw [plS]; exact ata_cons h ata_nil
  | .keep cs b, i, lv, h => by
    rw [plS]; have g := h; rw [okS] at g
    exact ata_cons h (ata_app (ata_pre (plL_at b 0 (lv + 1) g.2.2.2)) ata_nil)
  | .again b, i, lv, h => by
    rw [plS]; have g := h; rw [okS] at g
    exact ata_cons h (ata_app (ata_pre (plL_at b 0 (lv + 1) g.2.2)) ata_nil)
  | .either a b, i, lv, h => by
    rw [plS]; have g := h; rw [okS] at g
    exact ata_cons h (ata_app (ata_pre (plL_at a 0 (lv + 1) g.2.2.1)) (ata_app (ata_pre (plL_at b 0 (lv + 1) g.2.2.2.2)) ata_nil))
  | .call p r a b, i, lv, h => by
    rw [plS]; have g := h; rw [okS] at g
    exact ata_cons h (ata_app (ata_pre (plL_at a 0 (lv + 1) g.2.2.2.2.1)) (ata_app (ata_pre (plL_at b 0 (lv + 1) g.2.2.2.2.2.2)) ata_nil))
theorem plL_at {c m : Nat} : ∀ (ss : List Stm) (i lv : Nat), okL c m ss lv → AtAll c m (plL i ss)
  | [], i, lv, h => by rw [plL]; exact ata_nil
  | s :: r, i, lv, h => by
    rw [okL] at h; rw [plL]
    exact ata_app (plS_at s i lv h.1) (plL_at r (i + 1) lv h.2)
end
/-! ### a wrong body -/
theorem room65b {k : Nat} {A : Around} (r : Room k A) : A.units + 64 < cLine := by have := r.un; omega
abbrev s_law_wrong_body : Stmt := topS 59
theorem sc_law_wrong_body : FnScope ["pool", "body", "cells", "many", "placed", "path", "statement", "kind", "row", "more", "deep", "other", "k"] ["pool", "body", "cells", "many"] (defScope s_law_wrong_body) := ⟨rfl, rfl, rfl, by decide +kernel, rfl, by decide +kernel, by decide +kernel⟩
section
variable {P : Program} {w : World} {K : PySem.W.Frag} {mg : Str → Option Value} {base : Heap} {σ : L2.St} {H H' : Hp} {p a : Addr} {W : Addr → Prop} {te : TE}
def pathE (p : List Int) : PyData := .tuple (p.map PyData.int)
theorem fit_pathE {p : List Int} {n : Nat} (h : p.length ≤ 10000) : fit (pathE p) (n + 1) = true := lv_tup (by rw [List.length_map]; exact h) (fit_ints p n)
def plDt (e : List Int × PyData) : PyData := .tuple [pathE e.1, e.2]
theorem stk_dp {H0 : Hp} {zs : List V} {l : List (List Int × PyData)} (e : Ex H0 H) (h : Stk K H0 H zs l) : DpAll K H zs (l.map plDt) := by
  induction h with
  | nil => exact .nil
  | cons h1 h2 ih =>
    obtain ⟨v, ⟨t, p, rfl, s1, s2⟩, dv⟩ := h1
    exact .cons (.tup s1 (.cons (.tup s2 (dpa_ints _)) (.cons (dp_ex e _ _ dv) .nil))) ih
theorem pl_shaped {c m lv : Nat} {ss : List Stm} (h : okL c m ss lv) (c3 : c ≤ 3) (hc : cntL ss ≤ 1000) : SeqAt.shaped (.list ((plL 0 ss).map plDt)) = true := by
  have hat := plL_at ss 0 lv h
  have hs := plL_short ss 0 (lv := lv) (n := 9) h (by omega)
  refine shaped_of (n := 16) (lv_len (by rw [List.length_map, plL_len]; omega) (fitAll_of fun d hd => ?_)) (by decide) ?_
  · obtain ⟨e, he, rfl⟩ := List.mem_map.mp hd
    obtain ⟨_, s, lv', hes, oks⟩ := hat e he
    refine lv_tup (n := 14) (by show 2 ≤ 10000; decide) ?_
    rw [fitAll, fitAll, fitAll, fit_pathE (n := 13) (by have := hs e he; omega), hes, fit_S c3 s oks (by omega)]; rfl
  · rw [PyData.canLay0]
    clear hs
    generalize plL 0 ss = l at hat
    induction l with
    | nil => rw [List.map_nil, PyData.canLayAll0]
    | cons e r ih =>
      obtain ⟨_, s, lv', hes, oks⟩ := hat e (List.mem_cons_self ..)
      rw [List.map_cons, PyData.canLayAll0, ih fun e he => hat e (List.mem_cons_of_mem _ he), Bool.and_true, plDt, PyData.canLay0, PyData.canLayAll0, PyData.canLayAll0, PyData.canLayAll0, hes, lay_S, pathE, PyData.canLay0, canLay_ints]; rfl
theorem eqv_nil (l : List (List Int × PyData)) : PyData.eqv (.list (l.map plDt)) (.list []) = l.isEmpty := by
  rw [PyData.eqv]
  cases l <;> simp [PyData.eqvAll]
theorem lc_rngP {tr : TA} {j n : Nat} {vs : List Nat} {d : PyData} (hn : n ≤ 1000) (hW : Has W H) (h : EvA tr σ H [.int (n : Int)]) (hw : ∀ x, wipe ((wipe σ vs).set j (some x)) vs = wipe σ vs)
    (he : ∀ (W' : Addr → Prop) (i : Nat) H1, Ex H H1 → Has W' H1 → EvP te ((wipe σ vs).set j (some (.int (i : Int)))) H1 (DPw K W' d)) {Q : VK} (k : ∀ D ys H2, H D = none → Ex H H2 → H2 D = some (.lst ys) → DpAll K (Cw W H2) ys (List.replicate n d) → Q (.ref D) H2) : tLc (iRng1 tr) (gName j) tYes te vs σ H Q :=
  h H (Ex.refl H) _ fun H1 e1 => ⟨(n : Int), rfl, by omega, by omega, fun D hD => by
  refine ⟨fun i m H' => m = n - i ∧ i ≤ n ∧ ∃ ys, Ex H1 H' ∧ H' D = some (.lst ys) ∧ DpAll K (Cw (fun a => W a ∨ a = D) H') ys (List.replicate i d), ⟨n, by omega, by omega, [], Ex.new hD, upd_same, .nil⟩, fun i m H' hI => ?_⟩
  obtain ⟨rfl, hi, ys, e2, hy, dy⟩ := hI
  have hW' : Has (fun a => W a ∨ a = D) H' := fun a w => w.elim (fun w => has_ex (e1.trans e2) hW a w) fun z => by cases z; exact ⟨_, hy⟩
  by_cases hlt : i < n
  · refine .inr ⟨show i < (n : Int).toNat by omega, fun H3 => ∃ ys, Ex H1 H3 ∧ H3 D = some (.lst ys) ∧ DpAll K (Cw (fun a => W a ∨ a = D) H3) ys (List.replicate (i + 1) d), fun H3 p3 => ⟨n - (i + 1), by omega, rfl, hlt, p3⟩, fun x H3 y => ?_⟩
    obtain ⟨rfl, rfl⟩ := y
    have e0 : (0 : Int) + (i : Int) = (i : Int) := Int.zero_add _
    show wipe ((wipe σ vs).set j (some (.int ((0 : Int) + (i : Int))))) vs = wipe σ vs ∧ _
    refine ⟨hw _, ?_⟩
    rw [e0]
    show te _ _ _
    refine he _ i _ (e1.trans e2) hW' _ (Ex.refl _) _ fun v H4 e4 dv => ⟨ys, e4 _ _ hy, sz_lt (by rw [dpa_len dy, List.length_replicate]; omega), ys ++ [v], (e2.trans e4).mut hD, upd_same, ?_⟩
    rw [List.replicate_succ']
    have up : Ex (Cw (fun a => W a ∨ a = D) H4) (Cw (fun a => W a ∨ a = D) (upd H4 D (.lst (ys ++ [v])))) := fun a o h => by
      obtain ⟨n1, h1⟩ := cw_ne h
      exact cw_o (by rw [upd_ne fun z => n1 (.inr z)]; exact h1) n1
    exact dpa_appJ (dpa_ex ((cw_mono e4).trans up) _ _ dy) (.cons (dp_ex up _ _ dv) .nil)
  · have : i = n := by omega
    subst this
    refine .inl ⟨show (i : Int).toNat ≤ i by omega, k D ys H' (fresh_back e1 hD) (e1.trans e2) hy (dpa_ex (fun a o h => ?_) _ _ dy)⟩
    obtain ⟨n1, h1⟩ := cw_ne h
    exact cw_o h1 fun z => n1 (.inl z)⟩
theorem oth_t {q : Addr} {xs : List V} (x : Pool H p q) (o : Oth p H H') (h : SqT K H a xs) : SqT K H' a xs := by
  obtain ⟨i, b, t, s, cs, x⟩ := x
  exact ex_t (ct_of o) (ct_t x.hp h)
/-- [e for k in range(a draw)] -/
theorem lc_rngD {tr : TA} {j lim : Nat} {vs : List Nat} {d : PyData} {q : Addr} (hl : lim ≤ 1000) (h : ∀ Q2 : List V → Hp → Prop, (∀ (n : Nat) H1, n ≤ lim → Oth p H H1 → PW W H1 p q → Q2 [.int (n : Int)] H1) → tr σ H Q2) (hw : ∀ x, wipe ((wipe σ vs).set j (some x)) vs = wipe σ vs)
    (he : ∀ (W' : Addr → Prop) (i : Nat) H1, Oth p H H1 → Has W' H1 → EvP te ((wipe σ vs).set j (some (.int (i : Int)))) H1 (DPw K W' d)) {Q : VK} (k : ∀ n D ys H2, n ≤ lim → Oth p H H2 → PW W H2 p q → H2 D = some (.lst ys) → DpAll K (Cw W H2) ys (List.replicate n d) → Q (.ref D) H2) : tLc (iRng1 tr) (gName j) tYes te vs σ H Q :=
  h _ fun n H1 hn o x => lc_rngP (K := K) (W := W) (σ := σ) (te := te) (j := j) (vs := vs) (n := n) (d := d) (tr := tCons (tC (.int (n : Int))) tNil) (by omega) x.has (ea_cons ev_c ea_nil) hw (fun W' i H2 e hW' => he W' i H2 (o.trans (.of e)) hW') fun D ys H2 nD e hD hy => k n D ys H2 hn (o.trans (.of e)) (x.ex e) hD hy
theorem epw_listOf {R : Addr} {zs : List Int} (hp : Has W H) (h : Ev te σ H (.ref R)) (hR : H R = some (.lst (zs.map V.int))) : EvP (tCB (rListS K) (tCons te tNil)) σ H (DPw K W (LI zs)) := fun H1 e Q q =>
  h H1 e _ fun H2 e2 => ⟨R, _, rfl, .inl (sq_of (e2 _ _ (e _ _ hR))), fun T nT => q _ _ (e2.trans (Ex.new nT)) (.lst (sq_of (cw_o upd_same (has_new (has_ex (e.trans e2) hp) nT))) (dpa_ints zs))⟩
def deepD : PyData := .tuple [.str (Str.ofString "again"), .list [.tuple [.str (Str.ofString "keep"), .list [], .list [.tuple [.str (Str.ofString "either"), .list [], .list [.tuple [.str (Str.ofString "again"), .list []]]]]]]]
def otherD (zs : List Int) : PyData := .tuple [.str (Str.ofString "again"), .list [.tuple [.str (Str.ofString "again"), .list [.tuple [.str (Str.ofString "again"), .list [.tuple [.str (Str.ofString "call"), .int 0, LI zs, .list [.list [], .list []]]]]]]]]
def spWB (K : PySem.W.Frag) : Sp := fun vs H Q _ => ∃ (W : Addr → Prop) (p q b : Addr) (ss : List Stm) (c m : Nat), vs = [.ref p, .ref b, .int (c : Int), .int (m : Int)] ∧ c ≤ 3 ∧ PW W H p q ∧ DPw K W (.list (toDs ss)) (.ref b) H ∧ okB c m ss ∧
  ∀ v ds H', Oth p H H' → PW W H' p q → DPw K W (.list ds) v H' → Gw 24 (.list ds) → Q v H'
theorem ok_wbody {f : Addr} {fd : FuncData} {k : Nat} (F : Fun K "_law_wrong_body" "_law_wrong_body" s_law_wrong_body f fd) (z_len : mg "len" = none) (z_list : mg "list" = none) (z_range : mg "range" = none) (C_law_draw : Cal P w K mg base 1 "_law_draw" spDraw []) (C_law_placed : Cal P w K mg base 5 "_law_placed" (spPlaced K 5) []) (C_law_with : Cal P w K mg base 5 "_law_with" (spWith K 5) []) (C_law_wrong_thing : Cal P w K mg base 2 "_law_wrong_thing" (spWT K) []) (hk : 5 ≤ k) :
    FnOk P w K mg base CX0 (k + 1) f fd ["pool", "body", "cells", "many"] (spWB K) := by
  have sc := sc_law_wrong_body
  refine F.ok sc (fun vs H Q E h => ?_) (fun cdv A outer s H vs Q E hr h => ?_)
  · obtain ⟨W, p, q0, b, ss, c, m, rfl, _⟩ := h
    rfl
  · obtain ⟨W, p, q0, b, ss, c, m, rfl, c3, x, hd, ⟨hok, hl8, hc12⟩, q⟩ := h
    refine ⟨_, (pss_cons (ps_set (i := 4) sc.nd rfl (by first | exact Or.inl rfl | exact Or.inr rfl) (pe_c C_law_placed hr (by omega) (by rfl) (pa_cons (pv 1) (pa_cons (pe_tup pa_nil) pa_nil))))
      (pss_cons (ps_if (pt_cmpR (op_eqD (room65b hr)) (pv 4) (pe_lst pa_nil) (nomark _))
      (pss_one (ps_ret (pe_lst (pa_cons (pe_c C_law_wrong_thing hr (by omega) (by rfl) (pa_cons (pv 0) (pa_cons (pv 2) (pa_cons (pv 3) pa_nil)))) pa_nil))))
      pss_nil)
      (pss_cons (ps_asg (pe_ix ix_list (pv 4) (pe_c C_law_draw hr (by omega) (by rfl) (pa_cons (pv 0) (pa_cons (pe_callB call_len_seq (by rfl) z_len (by decide +kernel) (pa_cons (pv 4) pa_nil)) pa_nil))) (fun _ _ => rfl)) (pg_tup (by rfl) (pgs_cons (pg_name (i := 5) sc.nd rfl (by first | exact Or.inl rfl | exact Or.inr rfl)) (pgs_cons (pg_name (i := 6) sc.nd rfl (by first | exact Or.inl rfl | exact Or.inr rfl)) pgs_nil))))
      (pss_cons (ps_set (i := 7) sc.nd rfl (by first | exact Or.inl rfl | exact Or.inr rfl) (pe_c C_law_draw hr (by omega) (by rfl) (pa_cons (pv 0) (pa_cons pe_int pa_nil))))
      (pss_cons (ps_set (i := 8) sc.nd rfl (by first | exact Or.inl rfl | exact Or.inr rfl) (pe_lc (own := [("k", 12)]) (by rfl) sc.nd (pi_range1 (by rfl) z_range (pa_cons (pe_op op_add (pv 2) pe_int) pa_nil)) (blkOk_by (own := [("k", 12)]) (N := ["pool", "body", "cells", "many", "placed", "path", "statement", "kind", "row", "more", "deep", "other", "k"]) (sc := defScope s_law_wrong_body) (by decide +kernel)) (fun _ _ _ _ _ => (pg_name (i := 12) sc.nd rfl (by first | exact Or.inl rfl | exact Or.inr rfl))) (fun _ _ _ _ _ => pts_nil) (fun _ _ _ _ _ => pe_int)))
      (pss_cons (ps_if (pt_cmpR op_eq (pv 7) pe_int (nomark _))
      (pss_cons (ps_setLc (i := 9) (own := [("k", 12)]) (by rfl) sc.nd rfl rfl (sw_true rfl rfl rfl (by decide +kernel)) (pi_range1 (by rfl) z_range (pa_cons (pe_c C_law_draw hr (by omega) (by rfl) (pa_cons (pv 0) (pa_cons pe_int pa_nil))) pa_nil)) (blkOk_by (own := [("k", 12)]) (N := ["pool", "body", "cells", "many", "placed", "path", "statement", "kind", "row", "more", "deep", "other", "k"]) (sc := defScope s_law_wrong_body) (by decide +kernel)) (fun _ _ _ _ _ => (pg_name (i := 12) sc.nd rfl (by first | exact Or.inl rfl | exact Or.inr rfl))) (fun _ _ _ _ _ => pts_nil) (fun _ _ _ _ _ => (pe_tup (pa_cons pe_str (pa_cons (pe_callTy (call_list_of : CallR _ (.type "list") (rListS K)) (by rfl) z_list (by decide +kernel) (pa_cons (pv 8) pa_nil)) pa_nil)))))
      (pss_one (ps_ret (pe_c C_law_with hr (by omega) (by rfl) (pa_cons (pv 1) (pa_cons (pv 5) (pa_cons (pe_op op_cat (pe_lst (pa_cons (pv 6) pa_nil)) (pv 9)) pa_nil)))))))
      pss_nil)
      (pss_cons (ps_if (pt_cmpR op_eq (pv 7) pe_int (nomark _))
      (pss_cons (ps_set (i := 10) sc.nd rfl (by first | exact Or.inl rfl | exact Or.inr rfl) (pe_tup (pa_cons pe_str (pa_cons (pe_lst (pa_cons (pe_tup (pa_cons pe_str (pa_cons (pe_lst pa_nil) (pa_cons (pe_lst (pa_cons (pe_tup (pa_cons pe_str (pa_cons (pe_lst pa_nil) (pa_cons (pe_lst (pa_cons (pe_tup (pa_cons pe_str (pa_cons (pe_lst pa_nil) pa_nil))) pa_nil)) pa_nil)))) pa_nil)) pa_nil)))) pa_nil)) pa_nil))))
      (pss_cons (ps_set (i := 11) sc.nd rfl (by first | exact Or.inl rfl | exact Or.inr rfl) (pe_tup (pa_cons pe_str (pa_cons (pe_lst (pa_cons (pe_tup (pa_cons pe_str (pa_cons (pe_lst (pa_cons (pe_tup (pa_cons pe_str (pa_cons (pe_lst (pa_cons (pe_tup (pa_cons pe_str (pa_cons pe_int (pa_cons (pv 8) (pa_cons (pe_lst (pa_cons (pe_lst pa_nil) (pa_cons (pe_lst pa_nil) pa_nil))) pa_nil))))) pa_nil)) pa_nil))) pa_nil)) pa_nil))) pa_nil)) pa_nil))))
      (pss_one (ps_ret (pe_c C_law_with hr (by omega) (by rfl) (pa_cons (pv 1) (pa_cons (pv 5) (pa_cons (pe_lst (pa_cons (pe_ix ix_list (pe_lst (pa_cons (pv 10) (pa_cons (pv 11) pa_nil))) (pe_c C_law_draw hr (by omega) (by rfl) (pa_cons (pv 0) (pa_cons pe_int pa_nil))) (fun _ _ => rfl)) pa_nil)) pa_nil))))))))
      pss_nil)
      (pss_one (ps_ret (pe_c C_law_with hr (by omega) (by rfl) (pa_cons (pv 1) (pa_cons (pv 5) (pa_cons (pe_lst (pa_cons (pe_c C_law_wrong_thing hr (by omega) (by rfl) (pa_cons (pv 0) (pa_cons (pv 2) (pa_cons (pv 3) pa_nil)))) pa_nil)) pa_nil))))))))))))), ?_⟩
    -- placed
    refine q_run ?_
    refine ⟨.ref b, rfl, by decide, fun T nT => ?_⟩
    have eT := Ex.new (o := .tup []) nT
    refine ⟨b, T, [], ss, c, m, 0, Cw W H, rfl, rfl, by decide, cw_ex.trans eT, hd, st_of upd_same, by decide, hok, hl8, hc12, fun L zs H2 nL0 e2 hL hZ => ?_⟩
    have e2' := eT.trans e2
    have x2 := x.ex e2'
    have nL : H L = none := fresh_back eT nL0
    have nLW : ¬ W L := has_new x.has nL
    have nLp : L ≠ p := fun z => nLW (z ▸ x.wp)
    rw [show plP [] (plL 0 ss) = plL 0 ss by rw [plP]; exact List.map_id' _] at hZ
    have lz := paired_len hZ
    have lpl : (plL 0 ss).length ≤ 12 := by rw [plL_len]; exact hc12
    dsimp only
    refine q_when (b := (plL 0 ss).isEmpty) (fun H1 e1 Q' q' => ?_) (fun hb H3 e3 => ?_) (fun hb H3 e3 => ?_)
    · refine ⟨.ref L, rfl, by show 0 ≤ sizeLine; decide, fun M nM => ?_⟩
      have eM := Ex.new (o := .lst []) nM
      refine ⟨_, _, dp_ex ((e1.trans eM)) _ _ (.lst (sq_of hL) (stk_dp (cw_ex.trans e2') hZ)), .lst (sq_of upd_same) .nil, pl_shaped hok c3 (by omega), by decide, ?_⟩
      rw [eqv_nil]
      exact ⟨_, rfl, q' _ eM⟩
    · -- no statement
      have x3 := x2.ex e3
      refine s_retR ?_
      refine ⟨.ref p, rfl, .int (c : Int), rfl, .int (m : Int), rfl, W, p, q0, c, m, rfl, c3, x3, fun v H4 o4 x4 ⟨d, dv, hf, hw⟩ => ?_⟩
      refine ⟨by show 1 ≤ sizeLine; decide, fun R nR => ?_⟩
      have eR := Ex.new (o := .lst [v]) nR
      exact q _ [d] _ ((Oth.of (e2'.trans e3)).trans (o4.trans (.of eR))) (x4.ex eR) (.lst (sq_of (cw_o upd_same (has_new x4.has nR))) (.cons (dpw_ex eR dv) .nil)) (gw_mono (gw_list (n := 6) (fun d' hd' => by rw [List.mem_singleton.mp hd']; exact ⟨hf, hw⟩) (by show 1 ≤ 10000; decide)) (by decide))
    · have hne : 0 < zs.length := by
        rw [lz]
        cases h : plL 0 ss with
        | nil => rw [h] at hb; cases hb
        | cons _ _ => simp
      have x3 := x2.ex e3
      have e03 := e2'.trans e3
      -- path, statement
      refine ⟨.ref L, rfl, .ref p, rfl, .ref L, rfl, L, zs, rfl, .inl (sq_of (e3 _ _ hL)), p, q0, (zs.length : Int), rfl, by omega, by rw [Int.natAbs_natCast]; exact Nat.lt_of_le_of_lt (show zs.length ≤ 12 by omega) (by decide), x3.pool, fun r H4 r0 rn o4 x4p => ?_⟩
      have x4 := x3.oth o4 x4p
      have o04 : Oth p H H4 := (Oth.of e03).trans o4
      have hr1 : r.toNat < zs.length := by omega
      have hr2 : r.toNat < (plL 0 ss).length := by omega
      have hge : (plL 0 ss)[r.toNat]? = some (plL 0 ss)[r.toNat] := List.getElem?_eq_getElem hr2
      have hmem := List.getElem_mem hr2
      obtain ⟨v3, ⟨t3, p3, hv3, ht3, hp3⟩, dv3⟩ := paired_get hZ (List.getElem?_eq_getElem hr1) hge
      obtain ⟨_, s, lv, hes, hoks⟩ := plL_at ss 0 0 hok _ hmem
      have hse := plL_short ss 0 (lv := 0) (n := 7) hok (by decide) _ hmem
      generalize (plL 0 ss)[r.toNat] = e at hge hmem hp3 dv3 hes hse ht3
      obtain ⟨ep, ed⟩ := e
      dsimp only at hp3 dv3 hes hse ht3
      subst hes
      have ne4 : ∀ {t : Addr} {xs : List V}, SqT K H2 t xs → SqT K H4 t xs := fun h => oth_t x3.pool o4 (ex_t e3 h)
      refine ⟨L, zs, r, zs[r.toNat], rfl, rfl, sq_of (o4 _ _ nLp (e3 _ _ hL)), at_of (j := r.toNat) (by omega) (List.getElem?_eq_getElem hr1), ?_⟩
      rw [hv3]
      refine ⟨t3, _, rfl, ne4 ht3, rfl, _, _, rfl, _, _, rfl, rfl, ?_⟩
      dsimp only
      -- kind
      refine q_run ?_
      refine ⟨.ref p, rfl, p, q0, 4, rfl, by decide, by decide, x4.pool, fun r5 H5 _ _ o5 x5p => ?_⟩
      have x5 := x4.oth o5 x5p
      have o05 := o04.trans o5
      -- row
      refine q_asgL (el_rng (n := c + 2) (fun _ => V.int 0) (ea_cons (ev_is (ev_op (ev_var rfl) ev_c rv_I0) (by rw [Int.natCast_add]; rfl)) ea_nil) (by omega) (fun _ => rfl) fun i H1 e hi => ev_c) fun R H6 nR e6 hR6 => ?_
      obtain ⟨ns, hns, lns⟩ : ∃ zs : List Int, (List.range (c + 2)).map (fun _ => V.int 0) = zs.map V.int ∧ zs.length ≤ 10 := ⟨(List.range (c + 2)).map fun _ => 0, by rw [List.map_map]; rfl, by rw [List.length_map, List.length_range]; omega⟩
      rw [hns] at hR6
      have x6 := x5.ex e6
      have o06 := o05.trans (.of e6)
      have nRW : ¬ W R := has_new x5.has nR
      have nRp : R ≠ p := fun z => nRW (z ▸ x.wp)
      have hp6 : SqT K H6 p3 (ep.map V.int) := ex_t e6 (oth_t x4.pool o5 (ne4 hp3))
      have w06 : Ex (Cw W H) (Cw W H6) := cw_oth x.wp o06
      have hd6 : DPw K W (.list (toDs ss)) (.ref b) H6 := dp_ex w06 _ _ hd
      have dv6 : DPw K W (toD s) v3 H6 := dp_ex w06 _ _ dv3
      have gs : Gw 14 (toD s) := gw_stm hoks c3 (by decide)
      -- the end: a call of _law_with
      have fin : ∀ {H' : Hp} {M : Addr} {ws : List V} {ts : List PyData}, Oth p H6 H' → PW W H' p q0 → H' M = some (.lst ws) → DpAll K (Cw W H') ws ts → ts.length ≤ 12 → (∀ d ∈ ts, Gw 14 d) → spWith K 5 [.ref b, .ref p3, .ref M] H' Q (fun _ _ _ => True) := fun {H' M ws ts} o x' hM hw lt gt =>
        ⟨W, b, p3, M, ss, ep, ws, ts, c, m, 0, rfl, rfl, by decide, x'.has, dp_ex (cw_oth x.wp o) _ _ hd6, oth_t x6.pool o hp6, ⟨_, hmem, rfl⟩, hM, hw, lt, gt, hok, hl8, c3, fun D ds H2 nD e2 dD gD => q _ ds H2 ((o06.trans o).trans (.of e2)) (x'.ex e2) dD (gw_mono gD (by decide))⟩
      -- kind 0
      refine q_when (et_test (ev_op (ev_var rfl) ev_c (rv_eq rfl))) (fun _ H7 e7 => ?_) (fun _ H7 e7 => ?_)
      · have x7 := x6.ex e7
        refine q_run ?_
        refine lc_rngD (K := K) (p := p) (q := q0) (W := W) (lim := 9) (d := .tuple [.str (Str.ofString "carry"), LI ns]) (by decide) (fun Q2 k2 => ⟨.ref p, rfl, p, q0, 10, rfl, by decide, by decide, x7.pool, fun r8 H8 r80 r810 o8 x8p => ?g1⟩) (fun _ => rfl) (fun W' i H1 o hW' => ?g2) fun n8 M ys H9 hn8 o79 x9 hM hys => ?g3
        case g1 =>
          obtain ⟨n8, rfl⟩ : ∃ n : Nat, r8 = (n : Int) := ⟨r8.toNat, by omega⟩
          exact k2 n8 H8 (by omega) o8 (x7.oth o8 x8p)
        case g2 => exact epw_tup hW' (edw_cons (epw_ev ev_c (.str _)) (edw_cons (epw_listOf hW' (ev_var rfl) (o _ _ nRp (e7 _ _ hR6))) edw_nil)) (by simp)
        have o69 : Oth p H6 H9 := (Oth.of e7).trans o79
        refine s_retR ?_
        refine ⟨.ref b, rfl, .ref p3, rfl, ?_⟩
        refine (el_catLV (L := M) (el_lst (ea_cons (ev_var rfl) ea_nil) (by show 1 ≤ 100000; decide)) rfl hM (by rw [dpa_len hys, List.length_replicate]; show 1 + n8 ≤ 100000; omega)) H9 (Ex.refl _) _ fun Z H10 nZ e10 hZ => ?_
        refine fin (o69.trans (.of e10)) (x9.ex e10) hZ (dpa_appJ (.cons (dpw_ex e10 (dpw_oth x.wp o69 dv6)) .nil) (dpa_ex (cw_mono e10) _ _ hys)) (by rw [List.length_append, List.length_replicate]; show 1 + n8 ≤ 12; omega) fun d hd' => ?_
        rcases List.mem_append.mp hd' with hd' | hd'
        · rw [List.mem_singleton.mp hd']; exact gs
        · rw [(List.mem_replicate.mp hd').2]
          exact gw_tup (n := 13) ok8_words.2.1 (fun d hd => by rw [List.mem_singleton.mp hd]; exact gw_LI (n := 12) (by omega)) (by simp)
      -- kind 1
      have x7 := x6.ex e7
      have hR7 := e7 _ _ hR6
      refine q_when (et_test (ev_op (ev_var rfl) ev_c (rv_eq rfl))) (fun _ H8 e8 => ?_) (fun _ H8 e8 => ?_)
      · have x8 := x7.ex e8
        have hR8 := e8 _ _ hR7
        have hW8 := x8.has
        refine q_run (epc_tup (K := K) (W := W) hW8 (edc_cons (epc_ev ev_c (.str _)) (edc_cons (epc_lst hW8 (edc_cons (epc_tup hW8 (edc_cons (epc_ev ev_c (.str _)) (edc_cons (epc_lst hW8 edc_nil (by simp)) (edc_cons (epc_lst hW8 (edc_cons (epc_tup hW8 (edc_cons (epc_ev ev_c (.str _)) (edc_cons (epc_lst hW8 edc_nil (by simp)) (edc_cons (epc_lst hW8 (edc_cons (epc_tup hW8 (edc_cons (epc_ev ev_c (.str _)) (edc_cons (epc_lst hW8 edc_nil (by simp)) edc_nil)) (by simp)) edc_nil) (by simp)) edc_nil))) (by simp)) edc_nil) (by simp)) edc_nil))) (by simp)) edc_nil) (by simp)) edc_nil)) (by simp) H8 (Ex.refl _) _ fun v9 H9 e9 d9 => ?_)
        have x9 := x8.ex e9
        have hR9 := e9 _ _ hR8
        have hW9 := x9.has
        refine q_run (epc_tup (K := K) (W := W) hW9 (edc_cons (epc_ev ev_c (.str _)) (edc_cons (epc_lst hW9 (edc_cons (epc_tup hW9 (edc_cons (epc_ev ev_c (.str _)) (edc_cons (epc_lst hW9 (edc_cons (epc_tup hW9 (edc_cons (epc_ev ev_c (.str _)) (edc_cons (epc_lst hW9 (edc_cons (epc_tup hW9 (edc_cons (epc_ev ev_c (.str _)) (edc_cons (epc_ev ev_c (.int _)) (edc_cons (epc_ev (d := LI ns) (ev_var rfl) (.lst (sq_of (cw_o hR9 nRW)) (dpa_ints ns))) (edc_cons (epc_lst hW9 (edc_cons (epc_lst hW9 edc_nil (by simp)) (edc_cons (epc_lst hW9 edc_nil (by simp)) edc_nil)) (by simp)) edc_nil)))) (by simp)) edc_nil) (by simp)) edc_nil)) (by simp)) edc_nil) (by simp)) edc_nil)) (by simp)) edc_nil) (by simp)) edc_nil)) (by simp) H9 (Ex.refl _) _ fun v10 H10 e10 d10 => ?_)
        have x10 := x9.ex e10
        have d9' := dpw_ex e10 d9
        refine s_retR ?_
        refine ⟨.ref b, rfl, .ref p3, rfl, ?_⟩
        have lns' : ns.length ≤ 10000 := by omega
        refine menuM (Φ := Wt K 9 W) (n := 2) rfl (em_lst wt_ex x10.has (ew_cons wt_ex (wt (epc_ev (ev_var rfl) d9') (by simp [fit, fitAll, fit_ints, lns']) (by simp [allW, allWs, wordOk, ok8, ok7, allWs_ints])) (ew_cons wt_ex (wt (epc_ev (ev_var rfl) d10) (by simp [fit, fitAll, fit_ints, lns']) (by simp [allW, allWs, wordOk, ok8, ok7, allWs_ints])) ew_nil)) (by decide)) (by decide) (by decide) x10 (wt_oth x.wp) fun v H11 o11 x11 ⟨d, dv, hfd, hwd⟩ => ?_
        refine ⟨by show 1 ≤ sizeLine; decide, fun Z nZ => ?_⟩
        have eZ := Ex.new (o := .lst [v]) nZ
        exact fin ((Oth.of ((e7.trans e8).trans (e9.trans e10))).trans (o11.trans (.of eZ))) (x11.ex eZ) upd_same (.cons (dpw_ex eZ dv) .nil) (by show 1 ≤ 12; decide) fun d' hd' => by rw [List.mem_singleton.mp hd']; exact gw_mono ⟨hfd, hwd⟩ (by decide)
      · have x8 := x7.ex e8
        refine s_retR ?_
        refine ⟨.ref b, rfl, .ref p3, rfl, ?_⟩
        refine ⟨.ref p, rfl, .int (c : Int), rfl, .int (m : Int), rfl, W, p, q0, c, m, rfl, c3, x8, fun v H11 o11 x11 ⟨d, dv, hfd, hwd⟩ => ?_⟩
        refine ⟨by show 1 ≤ sizeLine; decide, fun Z nZ => ?_⟩
        have eZ := Ex.new (o := .lst [v]) nZ
        exact fin ((Oth.of (e7.trans e8)).trans (o11.trans (.of eZ))) (x11.ex eZ) upd_same (.cons (dpw_ex eZ dv) .nil) (by show 1 ≤ 12; decide) fun d' hd' => by rw [List.mem_singleton.mp hd']; exact gw_mono ⟨hfd, hwd⟩ (by decide)
end
/-! ### the law of wrong books -/
abbrev slaw : Stmt := topS 60
theorem sclaw : FnScope ["script", "pool", "turns", "whole", "cells", "many", "bodies", "turn", "odd", "at"] ["script"] (defScope slaw) := ⟨rfl, rfl, rfl, by decide +kernel, rfl, by decide +kernel, by decide +kernel⟩
theorem scan_inv {c m : Nat} : ∀ (bs : List PyData) (i : Nat), scanD c m i bs = none → ∃ ss : List (List Stm), bs = ss.map bD ∧ ∀ b ∈ ss, okB c m b
  | [], i, _ => ⟨[], rfl, fun _ h => (nomatch h)⟩
  | d :: r, i, hz => by
    rcases scan_item (c := c) (m := m) (i := i) (d := d) (r := r) with ⟨ds, rfl, s1, s2⟩ | ⟨_, s1⟩
    · cases hf : firstD c m ds with
      | some p => rw [s1 p hf] at hz; cases hz
      | none =>
        rw [s2 hf] at hz
        obtain ⟨ss, rfl, hok⟩ := scan_inv r (i + 1) hz
        obtain ⟨s, rfl, ok⟩ := first_inv hf
        exact ⟨s :: ss, rfl, fun b hb => (List.mem_cons.mp hb).elim (fun z => z ▸ ok) (hok b)⟩
    · rw [s1] at hz; cases hz
theorem chk_inv {c : Nat} {d : PyData} (hz : chkD c d = none) : ∃ ss : List (List Stm), d = toB ss ∧ 1 ≤ ss.length ∧ ss.length ≤ 3 ∧ ∀ b ∈ ss, okB c ss.length b := by
  cases d with
  | list bs =>
    rw [chkD] at hz
    split at hz
    · rename_i h
      rw [Bool.and_eq_true] at h
      obtain ⟨ss, rfl, hok⟩ := scan_inv bs 0 hz
      have h1 := of_decide_eq_true h.1
      have h2 := of_decide_eq_true h.2
      rw [List.length_map] at h1 h2 hok
      exact ⟨ss, rfl, h1, h2, hok⟩
    · cases hz
  | _ => simp [chkD] at hz
theorem chk_fit {d : PyData} (c : Nat) (c3 : c ≤ 3) (hz : chkD c d = none) : fit d 14 = true := by
  obtain ⟨ss, rfl, _, h3, hok⟩ := chk_inv hz
  exact toB_fit c3 (by omega) hok
theorem scan_len {c m : Nat} : ∀ (bs : List PyData) (i : Nat) (j : Int) (p : List Int), scanD c m i bs = some (j, p) → p.length ≤ 8
  | [], i, j, p, h => by rw [scanD] at h; cases h
  | d :: r, i, j, p, hz => by
    rcases scan_item (c := c) (m := m) (i := i) (d := d) (r := r) with ⟨ds, rfl, s1, s2⟩ | ⟨_, s1⟩
    · cases hf : firstD c m ds with
      | some p' => rw [s1 p' hf] at hz; cases hz; exact first_len hf
      | none => rw [s2 hf] at hz; exact scan_len r (i + 1) j p hz
    · rw [s1] at hz; cases hz; exact Nat.zero_le _
theorem chk_len {c : Nat} {d : PyData} {j : Int} {p : List Int} (h : chkD c d = some (j, p)) : p.length ≤ 8 := by
  cases d with
  | list bs =>
    rw [chkD] at h
    split at h
    · exact scan_len bs 0 j p h
    · cases h; exact Nat.zero_le _
  | _ => simp [chkD] at h; obtain ⟨_, rfl⟩ := h; exact Nat.zero_le _
theorem due_cases (dc db : PyData) : dueD dc db = .str (Str.ofString "book") ∧ (∀ c : Nat, dc = .int (c : Int) → chkD c db = none) ∨ dueD dc db = .str (Str.ofString "cells") ∨ ∃ (i : Int) (p : List Int), p.length ≤ 8 ∧ dueD dc db = .tuple [.int i, .tuple (p.map PyData.int)] := by
  unfold dueD
  split
  · cases h : chkD (natD dc) db with
    | none => exact .inl ⟨rfl, fun c hc => by subst hc; rw [natD, Int.toNat_natCast] at h; exact h⟩
    | some e => obtain ⟨i, p⟩ := e; exact .inr (.inr ⟨i, p, chk_len h, rfl⟩)
  · exact .inr (.inl rfl)
theorem due_fit (dc db : PyData) : fit (dueD dc db) 14 = true := by
  rcases due_cases dc db with ⟨h, _⟩ | h | ⟨i, p, hp, h⟩
  · rw [h]; simp [fit]
  · rw [h]; simp [fit]
  · rw [h]
    simp [fit, fitAll, fit_ints]; omega
theorem due_shaped (dc db : PyData) : SeqAt.shaped (dueD dc db) = true := by
  refine shaped_of (due_fit dc db) (by decide) ?_
  rcases due_cases dc db with ⟨h, _⟩ | h | ⟨i, p, hp, h⟩
  · rw [h]; decide +kernel
  · rw [h]; decide +kernel
  · rw [h, PyData.canLay0, PyData.canLayAll0, PyData.canLayAll0, PyData.canLayAll0, PyData.canLay0, PyData.canLay0, canLay_ints]; rfl
theorem due_odd {dc db : PyData} (h : btw 1 3 dc = false) : dueD dc db = .str (Str.ofString "cells") := by
  rw [dueD, h]; rfl
section
variable {P : Program} {w : World} {K : PySem.W.Frag} {mg : Str → Option Value} {base : Heap} {σ : L2.St} {H H' : Hp} {p a : Addr} {W : Addr → Prop} {te ta : TE} {E : XK}
theorem items_of {n : Nat} : ∀ {xs : List V} {ds : List PyData}, DpAll K H xs ds → fitAll ds n = true → allWs ok8 ds → Paired (ItemV K ok8 H) xs ds
  | _, _, .nil, _, _ => .nil
  | _, _, .cons a b, gf, ga => by
    rw [fitAll, Bool.and_eq_true] at gf
    rw [allWs] at ga
    exact .cons (.inl ⟨n, a, gf.1, ga.1⟩) (items_of b gf.2 ga.2)
theorem body_of {n : Nat} {v : V} {d : PyData} (h : Dp K H v d) (g : Gw n d) : BodyV K ok8 H v d := by
  cases d with
  | list ds =>
    obtain ⟨b, xs, rfl, hb, hx⟩ := dp_lst h
    obtain ⟨k, rfl, l, gf⟩ := fit_list g.1
    have ga := g.2
    rw [allW] at ga
    exact .inl ⟨b, xs, ds, rfl, rfl, hb, items_of hx gf ga, l⟩
  | _ => exact .inr ⟨by rw [isa_list], .inl ⟨n, h, g⟩⟩
theorem ep_told {vc : V} {dc db : PyData} {t1 t2 : TE} (h1 : Ev t1 σ H vc) (hc : Dp K H vc dc) (h2 : EvP t2 σ H fun v H => BodyV K ok8 H v db) : EvP (tCall (spTold K ok8) [] E (tCons t1 (tCons t2 tNil))) σ H (DP K (dueD dc db)) := fun H1 e Q q =>
  h1 H1 e _ fun H2 e2 => h2 H2 (e.trans e2) _ fun v H3 e3 hv => ⟨vc, v, dc, db, rfl, dp_ex ((e.trans e2).trans e3) _ _ hc, hv, fun c c3 hz => chk_fit c c3 hz, fun v' H4 e4 hd => q v' H4 ((e2.trans e3).trans e4) hd⟩
theorem ep_due {vc : V} {dc db : PyData} {t1 t2 : TE} (h1 : Ev t1 σ H vc) (hc : Dp K H vc dc) (h2 : EvP t2 σ H fun v H => BodyV K ok8 H v db) : EvP (tCall (spDue K ok8) [] E (tCons t1 (tCons t2 tNil))) σ H (DP K (dueD dc db)) := fun H1 e Q q =>
  h1 H1 e _ fun H2 e2 => h2 H2 (e.trans e2) _ fun v H3 e3 hv => ⟨vc, v, dc, db, rfl, dp_ex ((e.trans e2).trans e3) _ _ hc, hv, fun v' H4 e4 hd => q v' H4 ((e2.trans e3).trans e4) hd⟩
theorem epb_var {i : Nat} {v : V} {db : PyData} (h : σ[i]? = some (some v)) (hb : BodyV K ok8 H v db) : EvP (tVar i) σ H fun v H => BodyV K ok8 H v db := ep_ev (ev_var h) fun _ e => body_ex e hb
theorem gw_appE {n : Nat} {ds : List PyData} (h : ∀ d ∈ ds, Gw n d) : ∀ d ∈ ds ++ [.list [], .list [], .list []], Gw (n + 1) d := fun d hd => by
  rcases List.mem_append.mp hd with hd | hd
  · exact gw_mono (h d hd) (by omega)
  · have : d = .list [] := by simpa using hd
    rw [this]
    exact gw_list (fun _ h => (nomatch h)) (by decide)
theorem ep_catB {i : Nat} {B : Addr} {xs : List V} {ds : List PyData} (hp : Has W H) (h : σ[i]? = some (some (.ref B))) (hB : H B = some (.lst xs)) (hx : DpAll K (Cw W H) xs ds) (l : xs.length ≤ 1000) :
    EvP (tOp rCat (tVar i) (tLst (tCons (tLst tNil) (tCons (tLst tNil) (tCons (tLst tNil) tNil))))) σ H (DPw K W (.list (ds ++ [.list [], .list [], .list []]))) := fun H1 e Q q =>
  ⟨.ref B, h, (edc_cons (W := W) (epc_lst (has_ex e hp) edc_nil (by decide)) (edc_cons (epc_lst (has_ex e hp) edc_nil (by decide)) (edc_cons (epc_lst (has_ex e hp) edc_nil (by decide)) edc_nil))) H1 (Ex.refl _) _ fun vs H3 e3 hv => ⟨sz_of (by rw [dpa_len hv]; decide), fun M nM => by
    have eM := Ex.new (o := .lst vs) nM
    refine ⟨B, M, xs, vs, rfl, rfl, eM _ _ (e3 _ _ (e _ _ hB)), upd_same, sz_of (by rw [dpa_len hv]; show _ + 3 ≤ _; omega), fun R nR => ?_⟩
    have eR := Ex.new (o := .lst (xs ++ vs)) nR
    exact q _ _ ((e3.trans eM).trans eR) (.lst (sq_of (cw_o upd_same (has_new (has_ex ((e.trans e3).trans eM) hp) nR))) (dpa_appJ (dpa_ex (cw_mono (((e.trans e3).trans eM).trans eR)) _ _ hx) (dpa_ex (cw_mono (eM.trans eR)) _ _ hv)))⟩⟩
/-- a body, or what is none -/
def Bd (K : PySem.W.Frag) (W : Addr → Prop) (v : V) (H : Hp) : Prop := ∃ db, BodyV K ok8 (Cw W H) v db
theorem bd_ex : ∀ (v : V) (H H' : Hp), Ex H H' → Bd K W v H → Bd K W v H' := fun _ _ _ e ⟨d, h⟩ => ⟨d, body_ex (cw_mono e) h⟩
theorem bd_oth (wp : W p) : ∀ (v : V) (H H' : Hp), Oth p H H' → Bd K W v H → Bd K W v H' := fun _ _ _ o ⟨d, h⟩ => ⟨d, body_ex (cw_oth wp o) h⟩
theorem bd {n : Nat} {d : PyData} (h : EvP te σ H (DPw K W d)) (g : Gw n d) : EvP te σ H (Bd K W) := h.imp fun _ _ _ f => ⟨d, body_of f g⟩
theorem bd_dict (hp : Has W H) : EvP tDNewK σ H (Bd K W) := fun H1 e Q q A nA => q _ _ (Ex.new nA) ⟨.dict [], .inr ⟨by rw [isa_list], .inr ⟨rfl, A, rfl, cw_o upd_same (has_new (has_ex e hp) nA)⟩⟩⟩
/-- an item -/
def Im (K : PySem.W.Frag) (W : Addr → Prop) (v : V) (H : Hp) : Prop := ∃ d, ItemV K ok8 (Cw W H) v d
theorem im_ex : ∀ (v : V) (H H' : Hp), Ex H H' → Im K W v H → Im K W v H' := fun _ _ _ e ⟨d, h⟩ => ⟨d, item_ex (cw_mono e) h⟩
theorem im_oth (wp : W p) : ∀ (v : V) (H H' : Hp), Oth p H H' → Im K W v H → Im K W v H' := fun _ _ _ o ⟨d, h⟩ => ⟨d, item_ex (cw_oth wp o) h⟩
theorem im {n : Nat} {d : PyData} (h : EvP te σ H (DPw K W d)) (g : Gw n d) : EvP te σ H (Im K W) := h.imp fun _ _ _ f => ⟨d, .inl ⟨n, f, g⟩⟩
theorem im_dict (hp : Has W H) : EvP tDNewK σ H (Im K W) := fun H1 e Q q A nA => q _ _ (Ex.new nA) ⟨.dict [], .inr ⟨rfl, A, rfl, cw_o upd_same (has_new (has_ex e hp) nA)⟩⟩
/-- what is no number of cells -/
def Od (K : PySem.W.Frag) (W : Addr → Prop) (v : V) (H : Hp) : Prop := ∃ d, DPw K W d v H ∧ btw 1 3 d = false
theorem od_ex : ∀ (v : V) (H H' : Hp), Ex H H' → Od K W v H → Od K W v H' := fun _ _ _ e ⟨d, h, g⟩ => ⟨d, dpw_ex e h, g⟩
theorem od_oth (wp : W p) : ∀ (v : V) (H H' : Hp), Oth p H H' → Od K W v H → Od K W v H' := fun _ _ _ o ⟨d, h, g⟩ => ⟨d, dpw_oth wp o h, g⟩
theorem od {d : PyData} (h : EvP te σ H (DPw K W d)) (g : btw 1 3 d = false) : EvP te σ H (Od K W) := h.imp fun _ _ _ f => ⟨d, f, g⟩
theorem paired_set {α β : Type} {R : α → β → Prop} {x : α} {y : β} (h : R x y) : ∀ {xs : List α} {ys : List β} (j : Nat), Paired R xs ys → Paired R (xs.set j x) (ys.set j y)
  | _, _, _, .nil => .nil
  | _, _, 0, .cons a b => .cons h b
  | _, _, j + 1, .cons a b => .cons a (paired_set h j b)
theorem epb_copied {n i : Nat} {v : V} {d : PyData} (h : σ[i]? = some (some v)) (hd : Dp K H v d) (g : Gw n d) : EvP (tCall (spCopy K (n + 1)) [] E (tCons (tVar i) tNil)) σ H fun v H => BodyV K ok8 H v d := fun H1 e Q q => cp_call rfl (ev_var h) hd g.1 H1 e Q fun v' H2 e2 dq => q v' H2 e2 (body_of (dq_dp _ _ dq) g)
theorem ev_dueNe {vc : V} {dc db : PyData} {t1 t2 : TE} (h1 : Ev t1 σ H vc) (hc : Dp K H vc dc) (h2 : EvP t2 σ H fun v H => BodyV K ok8 H v db) : Ev (tOp (rNeD K) (tCall (spDue K ok8) [] E (tCons t1 (tCons t2 tNil))) (tC (.str (Str.ofString "book")))) σ H (.bl (!PyData.eqv (dueD dc db) (.str (Str.ofString "book")))) := fun H1 e Q q =>
  ep_due h1 hc h2 H1 e _ fun v H2 e2 hd => ⟨_, _, hd, .str _, due_shaped _ _, by decide +kernel, q H2 e2⟩
theorem due_go {c : Nat} {db : PyData} (h : (!PyData.eqv (dueD (.int (c : Int)) db) (.str (Str.ofString "book"))) = false) : chkD c db = none := by
  rcases due_cases (.int (c : Int)) db with ⟨_, g⟩ | g | ⟨i, p, _, g⟩
  · exact g c rfl
  · rw [g] at h; exact absurd h (by decide +kernel)
  · rw [g] at h; simp [PyData.eqv] at h
/-- a told word -/
theorem ev_word {s t : Str} {te : TE} (h : EvP te σ H (DP K (.str s))) : Ev (tOp rEq te (tC (.str t))) σ H (.bl (decide (V.str s = V.str t))) := fun H1 e Q q =>
  h H1 e _ fun v H2 e2 hd => by
    cases hd
    exact ⟨rfl, q H2 e2⟩
def spLaw (K : PySem.W.Frag) : Sp := fun vs H Q _ => ∃ (a : Addr) (ns : List Int), vs = [.ref a] ∧ SqL K H a (ns.map V.int) ∧ ∀ H', Q (.bl true) H'
theorem ok_law {f : Addr} {fd : FuncData} {k : Nat} (F : Fun K "law" "law" slaw f fd) (z_tuple : mg "tuple" = none) (z_list : mg "list" = none) (z_range : mg "range" = none)
    (C_law_pool : Cal P w K mg base 1 "_law_pool" (spPool K) []) (C_law_draw : Cal P w K mg base 1 "_law_draw" spDraw []) (C_law_bodies : Cal P w K mg base 13 "_law_bodies" spBodies []) (C_law_copied : Cal P w K mg base 26 "_law_copied" (spCopy K 26) [])
    (C_law_same : Cal P w K mg base 15 "_law_same" (spSame K 15) []) (C_law_wrong_body : Cal P w K mg base 6 "_law_wrong_body" (spWB K) []) (C_law_told : Cal P w K mg base 21 "_law_told" (spTold K ok8) []) (C_law_due : Cal P w K mg base 9 "_law_due" (spDue K ok8) []) (hk : 26 ≤ k) :
    FnOk P w K mg base CX0 (k + 1) f fd ["script"] (spLaw K) := by
  have sc := sclaw
  refine F.ok sc (fun vs H Q E h => ?_) (fun cdv A outer s H vs Q E hr h => ?_)
  · obtain ⟨a, ns, rfl, _⟩ := h
    rfl
  · obtain ⟨a, ns, rfl, hS, q⟩ := h
    refine ⟨_, (pss_cons (ps_set (i := 1) sc.nd rfl (by first | exact Or.inl rfl | exact Or.inr rfl) (pe_c C_law_pool hr (by omega) (by rfl) (pa_cons (pv 0) pa_nil)))
      (pss_cons (ps_set (i := 2) sc.nd rfl (by first | exact Or.inl rfl | exact Or.inr rfl) (pe_c C_law_draw hr (by omega) (by rfl) (pa_cons (pv 1) (pa_cons pe_int pa_nil))))
      (pss_cons (ps_set (i := 3) sc.nd rfl (by first | exact Or.inl rfl | exact Or.inr rfl) (pe_c C_law_draw hr (by omega) (by rfl) (pa_cons (pv 1) (pa_cons pe_int pa_nil))))
      (pss_cons (ps_set (i := 4) sc.nd rfl (by first | exact Or.inl rfl | exact Or.inr rfl) (pe_op op_add pe_int (pe_c C_law_draw hr (by omega) (by rfl) (pa_cons (pv 1) (pa_cons pe_int pa_nil)))))
      (pss_cons (ps_set (i := 5) sc.nd rfl (by first | exact Or.inl rfl | exact Or.inr rfl) (pe_op op_add pe_int (pe_c C_law_draw hr (by omega) (by rfl) (pa_cons (pv 1) (pa_cons pe_int pa_nil)))))
      (pss_cons (ps_set (i := 6) sc.nd rfl (by first | exact Or.inl rfl | exact Or.inr rfl) (pe_c C_law_bodies hr (by omega) (by rfl) (pa_cons (pv 1) (pa_cons (pv 4) (pa_cons (pv 5) (pa_cons pe_int pa_nil))))))
      (Evl.pss_cut (ps_for PassesOwn.never rfl (pi_range1 (by rfl) z_range (pa_cons (pv 2) pa_nil)) (pg_name (i := 7) sc.nd rfl (by first | exact Or.inl rfl | exact Or.inr rfl))
      (pss_cons (ps_set (i := 9) sc.nd rfl (by first | exact Or.inl rfl | exact Or.inr rfl) (pe_c C_law_draw hr (by omega) (by rfl) (pa_cons (pv 1) (pa_cons (pv 5) pa_nil))))
      (pss_cons (ps_asg (pe_c C_law_wrong_body hr (by omega) (by rfl) (pa_cons (pv 1) (pa_cons (pe_ix ix_list (pv 6) (pv 9) (fun _ _ => rfl)) (pa_cons (pv 4) (pa_cons (pv 5) pa_nil))))) (pg_sub (pv 6) (pv 9) set_list))
      (pss_cons (ps_if (pt_not (pt_val (pe_c C_law_same hr (by omega) (by rfl) (pa_cons (pe_c C_law_told hr (by omega) (by rfl) (pa_cons (pv 4) (pa_cons (pe_c C_law_copied hr (by omega) (by rfl) (pa_cons (pv 6) pa_nil)) pa_nil))) (pa_cons (pe_c C_law_due hr (by omega) (by rfl) (pa_cons (pv 4) (pa_cons (pv 6) pa_nil))) pa_nil)))))
      (pss_one (ps_ret pe_bl))
      pss_nil)
      (pss_one (ps_if (pt_cmpR (op_neD (room65b hr)) (pe_c C_law_due hr (by omega) (by rfl) (pa_cons (pv 4) (pa_cons (pv 6) pa_nil))) pe_str (nomark _))
      (pss_one ps_break)
      pss_nil))))))
      (Evl.pss_cut (ps_if (pt_cmpR op_eq (pv 3) pe_int (nomark _))
      (pss_one (ps_set (i := 6) sc.nd rfl (by first | exact Or.inl rfl | exact Or.inr rfl) (pe_ix ix_list (pe_lst (pa_cons (pe_lst pa_nil) (pa_cons pe_non (pa_cons (pe_callTy call_tuple_of (by rfl) z_tuple (by decide +kernel) (pa_cons (pv 6) pa_nil)) (pa_cons (pe_op op_cat (pv 6) (pe_lst (pa_cons (pe_lst pa_nil) (pa_cons (pe_lst pa_nil) (pa_cons (pe_lst pa_nil) pa_nil))))) (pa_cons pe_dnewK (pa_cons pe_int pa_nil))))))) (pe_c C_law_draw hr (by omega) (by rfl) (pa_cons (pv 1) (pa_cons pe_int pa_nil))) (fun _ _ => rfl))))
      pss_nil)
      (Evl.pss_cut (ps_if (pt_cmpR op_eq (pv 3) pe_int (nomark _))
      (pss_cons (ps_set (i := 6) sc.nd rfl (by first | exact Or.inl rfl | exact Or.inr rfl) (pe_callTy call_list_of (by rfl) z_list (by decide +kernel) (pa_cons (pv 6) pa_nil)))
      (pss_one (ps_asg (pe_ix ix_list (pe_lst (pa_cons pe_non (pa_cons (pe_tup pa_nil) (pa_cons pe_str (pa_cons pe_int (pa_cons pe_dnewK pa_nil)))))) (pe_c C_law_draw hr (by omega) (by rfl) (pa_cons (pv 1) (pa_cons pe_int pa_nil))) (fun _ _ => rfl)) (pg_sub (pv 6) (pe_c C_law_draw hr (by omega) (by rfl) (pa_cons (pv 1) (pa_cons (pv 5) pa_nil))) set_list))))
      pss_nil)
      (pss_cons (ps_if (pt_not (pt_val (pe_c C_law_same hr (by omega) (by rfl) (pa_cons (pe_c C_law_told hr (by omega) (by rfl) (pa_cons (pv 4) (pa_cons (pv 6) pa_nil))) (pa_cons (pe_c C_law_due hr (by omega) (by rfl) (pa_cons (pv 4) (pa_cons (pv 6) pa_nil))) pa_nil)))))
      (pss_one (ps_ret pe_bl))
      pss_nil)
      (pss_cons (ps_set (i := 8) sc.nd rfl (by first | exact Or.inl rfl | exact Or.inr rfl) (pe_ix ix_list (pe_lst (pa_cons pe_int (pa_cons pe_int (pa_cons (pe_un un_neg pe_int) (pa_cons pe_non (pa_cons pe_bl (pa_cons pe_str (pa_cons (pe_lst (pa_cons pe_int pa_nil)) (pa_cons (pe_tup (pa_cons pe_int pa_nil)) pa_nil))))))))) (pe_c C_law_draw hr (by omega) (by rfl) (pa_cons (pv 1) (pa_cons pe_int pa_nil))) (fun _ _ => rfl)))
      (pss_one (ps_ret (pe_and (pe_cmpR op_eq (pe_c C_law_told hr (by omega) (by rfl) (pa_cons (pv 8) (pa_cons (pv 6) pa_nil))) pe_str (nomark _)) (pe_one (pe_cmpR op_eq (pe_c C_law_told hr (by omega) (by rfl) (pa_cons (pv 8) (pa_cons pe_non pa_nil))) pe_str (nomark _))))))))))))))))), ?_⟩
    -- the draws
    refine q_run ?_
    refine ⟨.ref a, rfl, a, ns, rfl, hS, fun p q0 H1 np nq e1 x1 => ?_⟩
    refine q_run ?_
    refine ⟨.ref p, rfl, p, q0, 4, rfl, by decide, by decide, x1, fun rt H2 rt0 rt4 o2 x2 => ?_⟩
    refine q_run ?_
    refine ⟨.ref p, rfl, p, q0, 8, rfl, by decide, by decide, x2, fun rw_ H3 rw0 rw8 o3 x3 => ?_⟩
    refine q_run ?_
    refine ⟨.ref p, rfl, p, q0, 3, rfl, by decide, by decide, x3, fun r H4 r0 r3 o4 x4 => ?_⟩
    obtain ⟨c, hc⟩ : ∃ n : Nat, 1 + r = (n : Int) := ⟨(1 + r).toNat, by omega⟩
    refine ⟨1, r, rfl, rfl, ?_⟩
    show tSeq _ _ _ (List.set _ 4 (some (V.int (1 + r)))) _
    rw [hc]
    refine q_run ?_
    refine ⟨.ref p, rfl, p, q0, 3, rfl, by decide, by decide, x4, fun r' H5 r0' r3' o5 x5 => ?_⟩
    obtain ⟨m, hm⟩ : ∃ n : Nat, 1 + r' = (n : Int) := ⟨(1 + r').toNat, by omega⟩
    refine ⟨1, r', rfl, rfl, ?_⟩
    show tSeq _ _ _ (List.set _ 5 (some (V.int (1 + r')))) _
    rw [hm]
    have c1 : 1 ≤ c := by omega
    have c3 : c ≤ 3 := by omega
    have m1 : 1 ≤ m := by omega
    have m3 : m ≤ 3 := by omega
    refine q_run ?_
    refine ⟨.ref p, rfl, .int (c : Int), rfl, .int (m : Int), rfl, p, q0, c, m, rfl, c1, c3, m1, m3, x5, fun bs0 B xs0 H6 hl0 hok0 o6 x6 nB hB0 dq0 => ?_⟩
    have nBp : B ≠ p := new_ne nB x5.isP
    have nBq : B ≠ q0 := new_ne nB x5.isQ
    obtain ⟨W, hWd⟩ : ∃ W : Addr → Prop, ∀ a, W a ↔ (a = p ∨ a = B) := ⟨fun a => a = p ∨ a = B, fun _ => Iff.rfl⟩
    obtain ⟨W0, hW0⟩ : ∃ W : Addr → Prop, ∀ a, W a ↔ a = p := ⟨fun a => a = p, fun _ => Iff.rfl⟩
    have wp : W p := (hWd p).mpr (.inl rfl)
    have wp0 : W0 p := (hW0 p).mpr rfl
    have wide : ∀ H : Hp, Ex (Cw W H) (Cw W0 H) := fun H a o h => cw_o (cw_ne h).2 fun z => (cw_ne h).1 ((hWd a).mpr (.inl ((hW0 a).mp z)))
    have pw0 : ∀ {H : Hp}, Pool H p q0 → PW W0 H p q0 := fun x => ⟨x, fun a w => by rw [(hW0 a).mp w]; exact x.isP, wp0⟩
    have pw : ∀ {H : Hp} {xs : List V}, Pool H p q0 → H B = some (.lst xs) → PW W H p q0 := fun x hB => ⟨x, fun a w => by
      rcases (hWd a).mp w with rfl | rfl
      · exact x.isP
      · exact ⟨_, hB⟩, wp⟩
    refine ⟨fun σ' H' => ∃ (x7 x8 : Option V) (xs : List V) (ds : List PyData), σ' = [some (.ref a), some (.ref p), some (.int rt), some (.int rw_), some (.int (c : Int)), some (.int (m : Int)), some (.ref B), x7, none, x8] ∧ Pool H' p q0 ∧ H' B = some (.lst xs) ∧ DpAll K (Cw W H') xs ds ∧ ds.length = m ∧ ∀ d ∈ ds, Gw 24 d ∧ ∃ es, d = .list es, ?_, ?_⟩
    · refine s_forR1 (n := rt) (ea_cons (ev_var rfl) ea_nil) ⟨by omega, by omega⟩ (fun i σ' H' => ∃ (x7 x8 : Option V) (bs : List (List Stm)) (xs : List V), σ' = [some (.ref a), some (.ref p), some (.int rt), some (.int rw_), some (.int (c : Int)), some (.int (m : Int)), some (.ref B), x7, none, x8] ∧ Pool H' p q0 ∧ bs.length = m ∧ (∀ b ∈ bs, okB c m b) ∧ H' B = some (.lst xs) ∧ DpAll K (Cw W H') xs (bs.map bD)) (fun H7 e7 => ⟨none, none, bs0, xs0, rfl, x6.ex e7, hl0, hok0, e7 _ _ hB0, ?_⟩) (fun i σ' H' hi hP => ?_) (fun σ' H' hP => ?_)
      · refine dqa_dpa (N := fun _ => True) _ _ (dqa_to (fun _ _ => trivial) (fun a o n ha => cw_o (e7 _ _ ha) fun z => ?_) _ _ dq0)
        rcases (hWd a).mp z with rfl | rfl
        · exact new_ne n.1 x5.isP rfl
        · exact n.2 rfl
      · obtain ⟨x7, x8, bs, xs, rfl, xP, hl, hok, hB, hx⟩ := hP
        have PW' := pw xP hB
        dsimp only
        refine q_run ?_
        refine ⟨.ref p, rfl, .int (m : Int), rfl, p, q0, (m : Int), rfl, by omega, by rw [Int.natAbs_natCast]; exact Nat.lt_of_le_of_lt m3 (by decide), xP, fun ra H7 ra0 ram o7 x7' => ?_⟩
        have PW7 := PW'.oth o7 x7'
        have hB7 := o7 _ _ nBp hB
        have hx7 := dpa_ex (cw_oth wp o7) _ _ hx
        obtain ⟨j, rfl⟩ : ∃ j : Nat, ra = (j : Int) := ⟨ra.toNat, by omega⟩
        have hjl : j < bs.length := by omega
        have hgb : bs[j]? = some bs[j] := List.getElem?_eq_getElem hjl
        have hokj := hok _ (List.getElem_mem hjl)
        generalize bs[j] = ss at hgb hokj
        have hgd : (bs.map bD)[j]? = some (.list (toDs ss)) := by rw [List.getElem?_map, hgb]; rfl
        obtain ⟨vj, hvj, dvj⟩ := dpa_get hx7 hgd
        have lx := dpa_len hx7
        rw [List.length_map] at lx
        have dvj0 := dvj
        obtain ⟨bj, _, rfl, _, _⟩ := dp_lst dvj
        refine ⟨.ref p, rfl, .ref B, rfl, .int (j : Int), rfl, B, xs, (j : Int), .ref bj, rfl, rfl, sq_of hB7, atI_nat hvj, .int (c : Int), rfl, .int (m : Int), rfl, W, p, q0, bj, ss, c, m, rfl, c3, PW7, dvj0, hokj, fun v ds H8 o8 x8' dv gv => ?_⟩
        have hB8 := o8 _ _ nBp hB7
        refine ⟨.ref B, rfl, .int (j : Int), rfl, B, xs, (j : Int), j, rfl, rfl, hB8, ?_, ?_⟩
        · unfold ixN
          rw [if_pos (by omega), if_pos (by omega)]; simp
        have x9 : Pool (upd H8 B (.lst (xs.set j v))) p q0 := x8'.pool.upd nBp nBq
        have hB9 : upd H8 B (.lst (xs.set j v)) B = some (.lst (xs.set j v)) := upd_same
        have up : Ex (Cw W H8) (Cw W (upd H8 B (.lst (xs.set j v)))) := fun a o h => by
          obtain ⟨n1, h1⟩ := cw_ne h
          exact cw_o (by rw [upd_ne fun z => n1 ((hWd a).mpr (.inr z))]; exact h1) n1
        have hx9 : DpAll K (Cw W (upd H8 B (.lst (xs.set j v)))) (xs.set j v) ((bs.map bD).set j (.list ds)) := dpa_setW (dp_ex up _ _ dv) j (dpa_ex ((cw_oth wp o8).trans up) _ _ hx7)
        generalize upd H8 B (.lst (xs.set j v)) = H9 at x9 hB9 hx9 ⊢
        have lN : ((bs.map bD).set j (.list ds)).length = m := by rw [List.length_set, List.length_map, hl]
        have gN : ∀ d ∈ (bs.map bD).set j (.list ds), Gw 24 d ∧ ∃ es, d = .list es := fun d hd => by
          rcases List.mem_or_eq_of_mem_set hd with hd | rfl
          · obtain ⟨b, hb, rfl⟩ := List.mem_map.mp hd
            obtain ⟨o1, o2, _⟩ := hok b hb
            exact ⟨gw_mono (gw_list (gw_stms o1 c3 (Nat.le_refl _)) (by rw [toDs_len]; omega)) (by decide), _, rfl⟩
          · exact ⟨gv, _, rfl⟩
        generalize (bs.map bD).set j (.list ds) = dsN at hx9 lN gN
        have gB : Gw 25 (.list dsN) := gw_list (fun d hd => (gN d hd).1) (by omega)
        have dB9 : Dp K H9 (.ref B) (.list dsN) := .lst (sq_of hB9) (dpa_ex cw_ex _ _ hx9)
        dsimp only
        refine q_same (d := dueD (.int (c : Int)) (.list dsN)) (n := 14) (ep_told (ev_var rfl) (.int _) (epb_copied (n := 25) rfl dB9 gB)) (ep_due (ev_var rfl) (.int _) (epb_var rfl (body_of dB9 gB))) (due_fit _ _) fun H10 e10 => ?_
        refine s_when (et_test (ev_dueNe (ev_var rfl) (.int _) (epb_var rfl (body_of (dp_ex e10 _ _ dB9) gB)))) (fun hb H11 e11 => ?_) (fun hb H11 e11 => ?_)
        · exact ⟨_, _, _, _, rfl, x9.ex (e10.trans e11), (e10.trans e11) _ _ hB9, dpa_ex (cw_mono (e10.trans e11)) _ _ hx9, lN, gN⟩
        · obtain ⟨ss', hss, _, _, hok'⟩ := chk_inv (due_go hb)
          have hss : dsN = ss'.map bD := PyData.list.inj hss
          have lss : ss'.length = m := by rw [hss, List.length_map] at lN; exact lN
          rw [lss] at hok'
          rw [hss] at hx9
          exact ⟨_, _, ss', _, rfl, x9.ex (e10.trans e11), lss, hok', (e10.trans e11) _ _ hB9, dpa_ex (cw_mono (e10.trans e11)) _ _ hx9⟩
      · obtain ⟨x7, x8, bs, xs, rfl, xP, hl, hok, hB, hx⟩ := hP
        refine ⟨x7, x8, xs, bs.map bD, rfl, xP, hB, hx, by rw [List.length_map, hl], fun d hd => ?_⟩
        obtain ⟨b, hb, rfl⟩ := List.mem_map.mp hd
        obtain ⟨o1, o2, _⟩ := hok b hb
        exact ⟨gw_mono (gw_list (gw_stms o1 c3 (Nat.le_refl _)) (by rw [toDs_len]; omega)) (by decide), _, rfl⟩
    · rintro σ7 H7 ⟨x7, x8, xs, ds, rfl, xP, hB, hx, lds, gds⟩
      have lx := dpa_len hx
      have gds1 : ∀ d ∈ ds, Gw 24 d := fun d hd => (gds d hd).1
      have gT : Gw 25 (.list ds) := gw_list gds1 (by omega)
      refine ⟨fun σ' H' => ∃ v, σ' = [some (.ref a), some (.ref p), some (.int rt), some (.int rw_), some (.int (c : Int)), some (.int (m : Int)), some v, x7, none, x8] ∧ Pool H' p q0 ∧ (rw_ = 1 → v = .ref B ∧ H' B = some (.lst xs) ∧ DpAll K (Cw W H') xs ds) ∧ Bd K W0 v H', ?_, ?_⟩
      · have PW7 := pw0 xP
        refine s_when (et_test (ev_op (ev_var rfl) ev_c (rv_eq rfl))) (fun hb H8 e8 => ?_) (fun hb H8 e8 => ?_)
        · have hz : rw_ = 0 := V.int.inj (of_decide_eq_true hb)
          have x8' := PW7.ex e8
          have hW8 := x8'.has
          have hx8 := dpa_ex ((wide H7).trans (cw_mono e8)) _ _ hx
          have hB8 := e8 _ _ hB
          have gU : Gw 25 (.tuple ds) := by
            refine ⟨lv_tup (by omega) (fitAll_of fun d hd => (gds1 d hd).1), ?_⟩
            rw [allW]
            refine ⟨?_, allWs_of fun d hd => (gds1 d hd).2⟩
            cases ds with
            | nil => trivial
            | cons d r =>
              obtain ⟨_, es, rfl⟩ := gds d (List.mem_cons_self ..)
              trivial
          exact menuM (Φ := Bd K W0) (n := 6) rfl (em_lst bd_ex hW8 (ew_cons bd_ex (bd (epc_lst hW8 edc_nil (by decide)) (gw_list (n := 0) (fun _ h => (nomatch h)) (by decide))) (ew_cons bd_ex (bd (n := 0) (epc_ev ev_c .non) ⟨by simp [fit], by simp [allW]⟩) (ew_cons bd_ex (bd (epw_tupOf hW8 (ev_var rfl) (sq_of hB8) hx8) gU) (ew_cons bd_ex (bd (ep_catB hW8 rfl hB8 hx8 (by omega)) (gw_list (gw_appE gds1) (by rw [List.length_append]; show _ + 3 ≤ _; omega))) (ew_cons bd_ex (bd_dict hW8) (ew_cons bd_ex (bd (n := 0) (epc_ev ev_c (.int _)) gw_int) ew_nil)))))) (by decide)) (by decide) (by decide) x8' (bd_oth wp0) fun v H9 o9 x9 hv => ⟨v, rfl, x9.pool, fun z => by omega, hv⟩
        · exact ⟨_, rfl, xP.ex e8, fun _ => ⟨rfl, e8 _ _ hB, dpa_ex (cw_mono e8) _ _ hx⟩, _, body_of (n := 25) (.lst (sq_of (cw_o (e8 _ _ hB) fun z => nBp ((hW0 B).mp z))) (dpa_ex ((wide H7).trans (cw_mono e8)) _ _ hx)) gT⟩
      · rintro σ8 H8 ⟨v8, rfl, xP8, hlist, hbd⟩
        refine ⟨fun σ' H' => ∃ v, σ' = [some (.ref a), some (.ref p), some (.int rt), some (.int rw_), some (.int (c : Int)), some (.int (m : Int)), some v, x7, none, x8] ∧ Pool H' p q0 ∧ Bd K W0 v H', ?_, ?_⟩
        · refine s_when (et_test (ev_op (ev_var rfl) ev_c (rv_eq rfl))) (fun hb H9 e9 => ?_) (fun hb H9 e9 => ?_)
          · obtain ⟨rfl, hB8, hx8⟩ := hlist (V.int.inj (of_decide_eq_true hb))
            refine q_run ?_
            refine ⟨.ref B, rfl, B, xs, rfl, .inl (sq_of (e9 _ _ hB8)), fun L nL => ?_⟩
            have eL := Ex.new (o := .lst xs) nL
            have hL : upd H9 L (.lst xs) L = some (.lst xs) := upd_same
            have x10 := xP8.ex (e9.trans eL)
            have nLp : L ≠ p := new_ne nL (xP8.ex e9).isP
            have nLq : L ≠ q0 := new_ne nL (xP8.ex e9).isQ
            obtain ⟨WL, hWL⟩ : ∃ W : Addr → Prop, ∀ a, W a ↔ (a = p ∨ a = L) := ⟨fun a => a = p ∨ a = L, fun _ => Iff.rfl⟩
            have hxL : DpAll K (Cw WL (upd H9 L (.lst xs))) xs ds := dpa_ex (fun a o h => cw_o (eL _ _ (e9 _ _ (cw_ne h).2)) fun z => by
              rcases (hWL a).mp z with rfl | rfl
              · exact (cw_ne h).1 wp
              · have := e9 _ _ (cw_ne h).2
                rw [nL] at this; cases this) _ _ hx8
            generalize upd H9 L (.lst xs) = H10 at eL hL x10 hxL ⊢
            have PWL : PW WL H10 p q0 := ⟨x10, fun a w => by
              rcases (hWL a).mp w with rfl | rfl
              · exact x10.isP
              · exact ⟨_, hL⟩, (hWL p).mpr (.inl rfl)⟩
            have hWh := PWL.has
            refine menuM (Φ := Im K WL) (n := 5) rfl (em_lst im_ex hWh (ew_cons im_ex (im (n := 0) (epc_ev ev_c .non) ⟨by simp [fit], by simp [allW]⟩) (ew_cons im_ex (im (n := 1) (epc_tup hWh edc_nil (by decide)) ⟨by simp [fit, fitAll], by simp [allW, allWs, wordOk]⟩) (ew_cons im_ex (im (n := 0) (epc_ev ev_c (.str _)) ⟨by simp [fit], by simp [allW]⟩) (ew_cons im_ex (im (n := 0) (epc_ev ev_c (.int _)) gw_int) (ew_cons im_ex (im_dict hWh) ew_nil))))) (by decide)) (by decide) (by decide) PWL (im_oth PWL.wp) fun v H11 o11 x11 ⟨d, hv⟩ => ?_
            refine ⟨.ref L, rfl, .ref p, rfl, .int (m : Int), rfl, p, q0, (m : Int), rfl, by omega, by rw [Int.natAbs_natCast]; exact Nat.lt_of_le_of_lt m3 (by decide), x11.pool, fun r6 H12 r60 r6m o12 x12 => ?_⟩
            have hL12 := o12 _ _ nLp (o11 _ _ nLp hL)
            refine ⟨L, xs, r6, r6.toNat, rfl, rfl, hL12, ?_, ?_⟩
            · unfold ixN
              rw [if_pos r60, if_pos (by omega)]
            · have up : Ex (Cw WL H12) (Cw W0 (upd H12 L (.lst (xs.set r6.toNat v)))) := fun a o h => by
                obtain ⟨n1, h1⟩ := cw_ne h
                exact cw_o (by rw [upd_ne fun z => n1 ((hWL a).mpr (.inr z))]; exact h1) fun z => n1 ((hWL a).mpr (.inl ((hW0 a).mp z)))
              refine ⟨.ref L, rfl, x12.upd nLp nLq, .list (ds.set r6.toNat d), .inl ⟨L, xs.set r6.toNat v, _, rfl, rfl, sq_of (cw_o upd_same fun z => nLp ((hW0 L).mp z)), paired_set (item_ex ((cw_oth PWL.wp o12).trans up) hv) _ (items_of (n := 24) (dpa_ex (((cw_oth PWL.wp o11).trans (cw_oth PWL.wp o12)).trans up) _ _ hxL) (fitAll_of fun d hd => (gds1 d hd).1) (allWs_of fun d hd => (gds1 d hd).2)), by rw [List.length_set]; omega⟩⟩
          · exact ⟨v8, rfl, xP8.ex e9, bd_ex _ _ _ e9 hbd⟩
        · rintro σ9 H9 ⟨v9, rfl, xP9, db, hdb⟩
          refine q_same (d := dueD (.int (c : Int)) db) (n := 14) (ep_told (ev_var rfl) (.int _) (epb_var rfl (body_ex cw_ex hdb))) (ep_due (ev_var rfl) (.int _) (epb_var rfl (body_ex cw_ex hdb))) (due_fit _ _) fun H10 e10 => ?_
          have x10 := pw0 (xP9.ex e10)
          have hWh := x10.has
          refine q_run ?_
          refine menuM (Φ := Od K W0) (n := 8) rfl (em_lst od_ex hWh (ew_cons od_ex (od (epc_ev ev_c (.int _)) (by decide)) (ew_cons od_ex (od (epc_ev ev_c (.int _)) (by decide)) (ew_cons od_ex (od (epc_ev (ev_un ev_c ru_neg) (.int _)) (by decide)) (ew_cons od_ex (od (epc_ev ev_c .non) (by decide)) (ew_cons od_ex (od (epc_ev ev_c (.bl _)) (by decide)) (ew_cons od_ex (od (epc_ev ev_c (.str _)) rfl) (ew_cons od_ex (od (epc_lst hWh (edc_cons (epc_ev ev_c (.int _)) edc_nil) (by simp)) rfl) (ew_cons od_ex (od (epc_tup hWh (edc_cons (epc_ev ev_c (.int _)) edc_nil) (by simp)) rfl) ew_nil)))))))) (by decide)) (by decide) (by decide) x10 (od_oth wp0) fun vo H11 o11 x11 ⟨dc, hdc, hodd⟩ => ?_
          have hdb11 : BodyV K ok8 H11 v9 db := body_ex ((cw_oth wp0 ((Oth.of e10).trans o11)).trans cw_ex) hdb
          have hdc11 : Dp K H11 vo dc := dp_ex cw_ex _ _ hdc
          have t1 := due_odd (dc := dc) (db := db) hodd
          have t2 := due_odd (dc := dc) (db := .none) hodd
          refine s_ret (ev_andV (a := true) (b := true) (ev_is (ev_word (t1 ▸ ep_told (ev_var rfl) hdc11 (epb_var rfl hdb11))) (by simp)) fun _ => ev_is (ev_word (t2 ▸ ep_told (ev_var rfl) hdc11 (ep_ev ev_c fun _ _ => body_of (n := 0) .non ⟨by simp [fit], by simp [allW]⟩))) (by simp)) fun H12 _ => q H12
end
/-! ### what the top has written; the end -/
theorem all_mk {l : PySem.W.OpenLaw} {w : World} {K : PySem.W.Frag} {h : Heap} {mg : Str → Option Value} {fa : Addr} (X : K.In h) (G : h.Ns mainGlobals mg) (hfa : mg "law" = some (.ref fa))
    {odis_integer anis_integer : Option Addr} {slis_integer : Array (Option Value)} {ocis_integer kVis_integer dcis_integer pmis_integer cdis_integer ctis_integer : Value} {fis_integer : Addr} {odis_between anis_between : Option Addr} {slis_between : Array (Option Value)} {ocis_between kVis_between dcis_between pmis_between cdis_between ctis_between : Value} {fis_between : Addr} {odis_bit anis_bit : Option Addr} {slis_bit : Array (Option Value)} {ocis_bit kVis_bit dcis_bit pmis_bit cdis_bit ctis_bit : Value} {fis_bit : Addr} {odis_index anis_index : Option Addr} {slis_index : Array (Option Value)} {ocis_index kVis_index dcis_index pmis_index cdis_index ctis_index : Value} {fis_index : Addr} {odis_cell_list anis_cell_list : Option Addr} {slis_cell_list : Array (Option Value)} {ocis_cell_list kVis_cell_list dcis_cell_list pmis_cell_list cdis_cell_list ctis_cell_list : Value} {fis_cell_list : Addr} {odcopied ancopied : Option Addr} {slcopied : Array (Option Value)} {occopied kVcopied dccopied pmcopied cdcopied ctcopied : Value} {fcopied : Addr} {odis_row anis_row : Option Addr} {slis_row : Array (Option Value)} {ocis_row kVis_row dcis_row pmis_row cdis_row ctis_row : Value} {fis_row : Addr} {odis_block_pair anis_block_pair : Option Addr} {slis_block_pair : Array (Option Value)} {ocis_block_pair kVis_block_pair dcis_block_pair pmis_block_pair cdis_block_pair ctis_block_pair : Value} {fis_block_pair : Addr} {odis_sized anis_sized : Option Addr} {slis_sized : Array (Option Value)} {ocis_sized kVis_sized dcis_sized pmis_sized cdis_sized ctis_sized : Value} {fis_sized : Addr} {odis_statement anis_statement : Option Addr} {slis_statement : Array (Option Value)} {ocis_statement kVis_statement dcis_statement pmis_statement cdis_statement ctis_statement : Value} {fis_statement : Addr} {odblocks_of anblocks_of : Option Addr} {slblocks_of : Array (Option Value)} {ocblocks_of kVblocks_of dcblocks_of pmblocks_of cdblocks_of ctblocks_of : Value} {fblocks_of : Addr} {odplaces anplaces : Option Addr} {slplaces : Array (Option Value)} {ocplaces kVplaces dcplaces pmplaces cdplaces ctplaces : Value} {fplaces : Addr} {odentries anentries : Option Addr} {slentries : Array (Option Value)} {ocentries kVentries dcentries pmentries cdentries ctentries : Value} {fentries : Addr} {odfits anfits : Option Addr} {slfits : Array (Option Value)} {ocfits kVfits dcfits pmfits cdfits ctfits : Value} {ffits : Addr} {odfirst_fault anfirst_fault : Option Addr} {slfirst_fault : Array (Option Value)} {ocfirst_fault kVfirst_fault dcfirst_fault pmfirst_fault cdfirst_fault ctfirst_fault : Value} {ffirst_fault : Addr} {odcheck_bodies ancheck_bodies : Option Addr} {slcheck_bodies : Array (Option Value)} {occheck_bodies kVcheck_bodies dccheck_bodies pmcheck_bodies cdcheck_bodies ctcheck_bodies : Value} {fcheck_bodies : Addr} {odstatement_at anstatement_at : Option Addr} {slstatement_at : Array (Option Value)} {ocstatement_at kVstatement_at dcstatement_at pmstatement_at cdstatement_at ctstatement_at : Value} {fstatement_at : Addr} {CBook : Addr} {tLIST_LIMIT : Tok} {tPROCEDURE_LIMIT : Tok} {tLAST_LEVEL : Tok} {tROW_LIMIT : Tok} {tMOST_CELLS : Tok} {tMOST_PROCEDURES : Tok} {a_SIZES : Addr} {esSIZES : Array DictEntry} {nSIZES : Nat} {tSIZES0 tSIZES1 tSIZES2 tSIZES3 tSIZES4 tSIZES5 tSIZES6 : Tok} {odBook___init__ anBook___init__ : Option Addr} {slBook___init__ : Array (Option Value)} {ocBook___init__ kVBook___init__ dcBook___init__ pmBook___init__ cdBook___init__ ctBook___init__ : Value} {fBook___init__ : Addr} {CNoCells : Addr} {CNoBook dNNoBook : Addr} {nmNoBook qnNoBook : Str} {bsNoBook bmNoBook suNoBook : List Value} {snNoBook : List Str} {abNoBook : Bool} {coNoBook : Option Bool} {ddNoBook : Option Addr} {kaNoBook kbNoBook kcNoBook kdNoBook keNoBook : Option Value} {odNoBook___init__ anNoBook___init__ : Option Addr} {slNoBook___init__ : Array (Option Value)} {ocNoBook___init__ kVNoBook___init__ dcNoBook___init__ pmNoBook___init__ cdNoBook___init__ ctNoBook___init__ : Value} {fNoBook___init__ : Addr} {od_law_pool an_law_pool : Option Addr} {sl_law_pool : Array (Option Value)} {oc_law_pool kV_law_pool dc_law_pool pm_law_pool cd_law_pool ct_law_pool : Value} {f_law_pool : Addr} {od_law_draw an_law_draw : Option Addr} {sl_law_draw : Array (Option Value)} {oc_law_draw kV_law_draw dc_law_draw pm_law_draw cd_law_draw ct_law_draw : Value} {f_law_draw : Addr} {od_law_row an_law_row : Option Addr} {sl_law_row : Array (Option Value)} {oc_law_row kV_law_row dc_law_row pm_law_row cd_law_row ct_law_row : Value} {f_law_row : Addr} {od_law_command an_law_command : Option Addr} {sl_law_command : Array (Option Value)} {oc_law_command kV_law_command dc_law_command pm_law_command cd_law_command ct_law_command : Value} {f_law_command : Addr} {od_law_some_cells an_law_some_cells : Option Addr} {sl_law_some_cells : Array (Option Value)} {oc_law_some_cells kV_law_some_cells dc_law_some_cells pm_law_some_cells cd_law_some_cells ct_law_some_cells : Value} {f_law_some_cells : Addr} {od_law_block an_law_block : Option Addr} {sl_law_block : Array (Option Value)} {oc_law_block kV_law_block dc_law_block pm_law_block cd_law_block ct_law_block : Value} {f_law_block : Addr} {od_law_statement an_law_statement : Option Addr} {sl_law_statement : Array (Option Value)} {oc_law_statement kV_law_statement dc_law_statement pm_law_statement cd_law_statement ct_law_statement : Value} {f_law_statement : Addr} {od_law_body an_law_body : Option Addr} {sl_law_body : Array (Option Value)} {oc_law_body kV_law_body dc_law_body pm_law_body cd_law_body ct_law_body : Value} {f_law_body : Addr} {od_law_bodies an_law_bodies : Option Addr} {sl_law_bodies : Array (Option Value)} {oc_law_bodies kV_law_bodies dc_law_bodies pm_law_bodies cd_law_bodies ct_law_bodies : Value} {f_law_bodies : Addr} {od_law_copied an_law_copied : Option Addr} {sl_law_copied : Array (Option Value)} {oc_law_copied kV_law_copied dc_law_copied pm_law_copied cd_law_copied ct_law_copied : Value} {f_law_copied : Addr} {od_law_same an_law_same : Option Addr} {sl_law_same : Array (Option Value)} {oc_law_same kV_law_same dc_law_same pm_law_same cd_law_same ct_law_same : Value} {f_law_same : Addr} {od_law_blocks an_law_blocks : Option Addr} {sl_law_blocks : Array (Option Value)} {oc_law_blocks kV_law_blocks dc_law_blocks pm_law_blocks cd_law_blocks ct_law_blocks : Value} {f_law_blocks : Addr} {od_law_placed an_law_placed : Option Addr} {sl_law_placed : Array (Option Value)} {oc_law_placed kV_law_placed dc_law_placed pm_law_placed cd_law_placed ct_law_placed : Value} {f_law_placed : Addr} {od_law_is_integer an_law_is_integer : Option Addr} {sl_law_is_integer : Array (Option Value)} {oc_law_is_integer kV_law_is_integer dc_law_is_integer pm_law_is_integer cd_law_is_integer ct_law_is_integer : Value} {f_law_is_integer : Addr} {od_law_is_row an_law_is_row : Option Addr} {sl_law_is_row : Array (Option Value)} {oc_law_is_row kV_law_is_row dc_law_is_row pm_law_is_row cd_law_is_row ct_law_is_row : Value} {f_law_is_row : Addr} {od_law_is_index an_law_is_index : Option Addr} {sl_law_is_index : Array (Option Value)} {oc_law_is_index kV_law_is_index dc_law_is_index pm_law_is_index cd_law_is_index ct_law_is_index : Value} {f_law_is_index : Addr} {od_law_are_kept an_law_are_kept : Option Addr} {sl_law_are_kept : Array (Option Value)} {oc_law_are_kept kV_law_are_kept dc_law_are_kept pm_law_are_kept cd_law_are_kept ct_law_are_kept : Value} {f_law_are_kept : Addr} {od_law_is_statement an_law_is_statement : Option Addr} {sl_law_is_statement : Array (Option Value)} {oc_law_is_statement kV_law_is_statement dc_law_is_statement pm_law_is_statement cd_law_is_statement ct_law_is_statement : Value} {f_law_is_statement : Addr} {od_law_fault an_law_fault : Option Addr} {sl_law_fault : Array (Option Value)} {oc_law_fault kV_law_fault dc_law_fault pm_law_fault cd_law_fault ct_law_fault : Value} {f_law_fault : Addr} {od_law_due an_law_due : Option Addr} {sl_law_due : Array (Option Value)} {oc_law_due kV_law_due dc_law_due pm_law_due cd_law_due ct_law_due : Value} {f_law_due : Addr} {od_law_told an_law_told : Option Addr} {sl_law_told : Array (Option Value)} {oc_law_told kV_law_told dc_law_told pm_law_told cd_law_told ct_law_told : Value} {f_law_told : Addr} {od_law_wrong_thing an_law_wrong_thing : Option Addr} {sl_law_wrong_thing : Array (Option Value)} {oc_law_wrong_thing kV_law_wrong_thing dc_law_wrong_thing pm_law_wrong_thing cd_law_wrong_thing ct_law_wrong_thing : Value} {f_law_wrong_thing : Addr} {od_law_with an_law_with : Option Addr} {sl_law_with : Array (Option Value)} {oc_law_with kV_law_with dc_law_with pm_law_with cd_law_with ct_law_with : Value} {f_law_with : Addr} {od_law_wrong_body an_law_wrong_body : Option Addr} {sl_law_wrong_body : Array (Option Value)} {oc_law_wrong_body kV_law_wrong_body dc_law_wrong_body pm_law_wrong_body cd_law_wrong_body ct_law_wrong_body : Value} {f_law_wrong_body : Addr} {odlaw anlaw : Option Addr} {sllaw : Array (Option Value)} {oclaw kVlaw dclaw pmlaw cdlaw ctlaw : Value} {flaw : Addr}
    (ais_integer : PySem.W.nsIn K mainGlobals "is_integer" = some (some (.ref fis_integer)))
    (lis_integer : K.lookup fis_integer = some ⟨ocis_integer, odis_integer, .func (PySem.W.fnOf "is_integer" "is_integer" (defArgs sis_integer) (defBody sis_integer) (defScope sis_integer) .none kVis_integer dcis_integer pmis_integer anis_integer cdis_integer ctis_integer), slis_integer⟩)
    (cis_integer : PySem.W.codeIn K cdis_integer "is_integer" = true)
    (kis_integer : PySem.W.keepIn K (.ref fis_integer) = true)
    (ais_between : PySem.W.nsIn K mainGlobals "is_between" = some (some (.ref fis_between)))
    (lis_between : K.lookup fis_between = some ⟨ocis_between, odis_between, .func (PySem.W.fnOf "is_between" "is_between" (defArgs sis_between) (defBody sis_between) (defScope sis_between) .none kVis_between dcis_between pmis_between anis_between cdis_between ctis_between), slis_between⟩)
    (cis_between : PySem.W.codeIn K cdis_between "is_between" = true)
    (kis_between : PySem.W.keepIn K (.ref fis_between) = true)
    (ais_bit : PySem.W.nsIn K mainGlobals "is_bit" = some (some (.ref fis_bit)))
    (lis_bit : K.lookup fis_bit = some ⟨ocis_bit, odis_bit, .func (PySem.W.fnOf "is_bit" "is_bit" (defArgs sis_bit) (defBody sis_bit) (defScope sis_bit) .none kVis_bit dcis_bit pmis_bit anis_bit cdis_bit ctis_bit), slis_bit⟩)
    (cis_bit : PySem.W.codeIn K cdis_bit "is_bit" = true)
    (kis_bit : PySem.W.keepIn K (.ref fis_bit) = true)
    (ais_index : PySem.W.nsIn K mainGlobals "is_index" = some (some (.ref fis_index)))
    (lis_index : K.lookup fis_index = some ⟨ocis_index, odis_index, .func (PySem.W.fnOf "is_index" "is_index" (defArgs sis_index) (defBody sis_index) (defScope sis_index) .none kVis_index dcis_index pmis_index anis_index cdis_index ctis_index), slis_index⟩)
    (cis_index : PySem.W.codeIn K cdis_index "is_index" = true)
    (kis_index : PySem.W.keepIn K (.ref fis_index) = true)
    (ais_cell_list : PySem.W.nsIn K mainGlobals "is_cell_list" = some (some (.ref fis_cell_list)))
    (lis_cell_list : K.lookup fis_cell_list = some ⟨ocis_cell_list, odis_cell_list, .func (PySem.W.fnOf "is_cell_list" "is_cell_list" (defArgs sis_cell_list) (defBody sis_cell_list) (defScope sis_cell_list) .none kVis_cell_list dcis_cell_list pmis_cell_list anis_cell_list cdis_cell_list ctis_cell_list), slis_cell_list⟩)
    (cis_cell_list : PySem.W.codeIn K cdis_cell_list "is_cell_list" = true)
    (kis_cell_list : PySem.W.keepIn K (.ref fis_cell_list) = true)
    (acopied : PySem.W.nsIn K mainGlobals "copied" = some (some (.ref fcopied)))
    (lcopied : K.lookup fcopied = some ⟨occopied, odcopied, .func (PySem.W.fnOf "copied" "copied" (defArgs scopied) (defBody scopied) (defScope scopied) .none kVcopied dccopied pmcopied ancopied cdcopied ctcopied), slcopied⟩)
    (ccopied : PySem.W.codeIn K cdcopied "copied" = true)
    (kcopied : PySem.W.keepIn K (.ref fcopied) = true)
    (ais_row : PySem.W.nsIn K mainGlobals "is_row" = some (some (.ref fis_row)))
    (lis_row : K.lookup fis_row = some ⟨ocis_row, odis_row, .func (PySem.W.fnOf "is_row" "is_row" (defArgs sis_row) (defBody sis_row) (defScope sis_row) .none kVis_row dcis_row pmis_row anis_row cdis_row ctis_row), slis_row⟩)
    (cis_row : PySem.W.codeIn K cdis_row "is_row" = true)
    (kis_row : PySem.W.keepIn K (.ref fis_row) = true)
    (ais_block_pair : PySem.W.nsIn K mainGlobals "is_block_pair" = some (some (.ref fis_block_pair)))
    (lis_block_pair : K.lookup fis_block_pair = some ⟨ocis_block_pair, odis_block_pair, .func (PySem.W.fnOf "is_block_pair" "is_block_pair" (defArgs sis_block_pair) (defBody sis_block_pair) (defScope sis_block_pair) .none kVis_block_pair dcis_block_pair pmis_block_pair anis_block_pair cdis_block_pair ctis_block_pair), slis_block_pair⟩)
    (cis_block_pair : PySem.W.codeIn K cdis_block_pair "is_block_pair" = true)
    (kis_block_pair : PySem.W.keepIn K (.ref fis_block_pair) = true)
    (ais_sized : PySem.W.nsIn K mainGlobals "is_sized" = some (some (.ref fis_sized)))
    (lis_sized : K.lookup fis_sized = some ⟨ocis_sized, odis_sized, .func (PySem.W.fnOf "is_sized" "is_sized" (defArgs sis_sized) (defBody sis_sized) (defScope sis_sized) .none kVis_sized dcis_sized pmis_sized anis_sized cdis_sized ctis_sized), slis_sized⟩)
    (cis_sized : PySem.W.codeIn K cdis_sized "is_sized" = true)
    (kis_sized : PySem.W.keepIn K (.ref fis_sized) = true)
    (ais_statement : PySem.W.nsIn K mainGlobals "is_statement" = some (some (.ref fis_statement)))
    (lis_statement : K.lookup fis_statement = some ⟨ocis_statement, odis_statement, .func (PySem.W.fnOf "is_statement" "is_statement" (defArgs sis_statement) (defBody sis_statement) (defScope sis_statement) .none kVis_statement dcis_statement pmis_statement anis_statement cdis_statement ctis_statement), slis_statement⟩)
    (cis_statement : PySem.W.codeIn K cdis_statement "is_statement" = true)
    (kis_statement : PySem.W.keepIn K (.ref fis_statement) = true)
    (ablocks_of : PySem.W.nsIn K mainGlobals "blocks_of" = some (some (.ref fblocks_of)))
    (lblocks_of : K.lookup fblocks_of = some ⟨ocblocks_of, odblocks_of, .func (PySem.W.fnOf "blocks_of" "blocks_of" (defArgs sblocks_of) (defBody sblocks_of) (defScope sblocks_of) .none kVblocks_of dcblocks_of pmblocks_of anblocks_of cdblocks_of ctblocks_of), slblocks_of⟩)
    (cblocks_of : PySem.W.codeIn K cdblocks_of "blocks_of" = true)
    (kblocks_of : PySem.W.keepIn K (.ref fblocks_of) = true)
    (aplaces : PySem.W.nsIn K mainGlobals "places" = some (some (.ref fplaces)))
    (lplaces : K.lookup fplaces = some ⟨ocplaces, odplaces, .func (PySem.W.fnOf "places" "places" (defArgs splaces) (defBody splaces) (defScope splaces) .none kVplaces dcplaces pmplaces anplaces cdplaces ctplaces), slplaces⟩)
    (cplaces : PySem.W.codeIn K cdplaces "places" = true)
    (kplaces : PySem.W.keepIn K (.ref fplaces) = true)
    (aentries : PySem.W.nsIn K mainGlobals "entries" = some (some (.ref fentries)))
    (lentries : K.lookup fentries = some ⟨ocentries, odentries, .func (PySem.W.fnOf "entries" "entries" (defArgs sentries) (defBody sentries) (defScope sentries) .none kVentries dcentries pmentries anentries cdentries ctentries), slentries⟩)
    (centries : PySem.W.codeIn K cdentries "entries" = true)
    (kentries : PySem.W.keepIn K (.ref fentries) = true)
    (afits : PySem.W.nsIn K mainGlobals "fits" = some (some (.ref ffits)))
    (lfits : K.lookup ffits = some ⟨ocfits, odfits, .func (PySem.W.fnOf "fits" "fits" (defArgs sfits) (defBody sfits) (defScope sfits) .none kVfits dcfits pmfits anfits cdfits ctfits), slfits⟩)
    (cfits : PySem.W.codeIn K cdfits "fits" = true)
    (kfits : PySem.W.keepIn K (.ref ffits) = true)
    (afirst_fault : PySem.W.nsIn K mainGlobals "first_fault" = some (some (.ref ffirst_fault)))
    (lfirst_fault : K.lookup ffirst_fault = some ⟨ocfirst_fault, odfirst_fault, .func (PySem.W.fnOf "first_fault" "first_fault" (defArgs sfirst_fault) (defBody sfirst_fault) (defScope sfirst_fault) .none kVfirst_fault dcfirst_fault pmfirst_fault anfirst_fault cdfirst_fault ctfirst_fault), slfirst_fault⟩)
    (cfirst_fault : PySem.W.codeIn K cdfirst_fault "first_fault" = true)
    (kfirst_fault : PySem.W.keepIn K (.ref ffirst_fault) = true)
    (acheck_bodies : PySem.W.nsIn K mainGlobals "check_bodies" = some (some (.ref fcheck_bodies)))
    (lcheck_bodies : K.lookup fcheck_bodies = some ⟨occheck_bodies, odcheck_bodies, .func (PySem.W.fnOf "check_bodies" "check_bodies" (defArgs scheck_bodies) (defBody scheck_bodies) (defScope scheck_bodies) .none kVcheck_bodies dccheck_bodies pmcheck_bodies ancheck_bodies cdcheck_bodies ctcheck_bodies), slcheck_bodies⟩)
    (ccheck_bodies : PySem.W.codeIn K cdcheck_bodies "check_bodies" = true)
    (kcheck_bodies : PySem.W.keepIn K (.ref fcheck_bodies) = true)
    (astatement_at : PySem.W.nsIn K mainGlobals "statement_at" = some (some (.ref fstatement_at)))
    (lstatement_at : K.lookup fstatement_at = some ⟨ocstatement_at, odstatement_at, .func (PySem.W.fnOf "statement_at" "statement_at" (defArgs sstatement_at) (defBody sstatement_at) (defScope sstatement_at) .none kVstatement_at dcstatement_at pmstatement_at anstatement_at cdstatement_at ctstatement_at), slstatement_at⟩)
    (cstatement_at : PySem.W.codeIn K cdstatement_at "statement_at" = true)
    (kstatement_at : PySem.W.keepIn K (.ref fstatement_at) = true)
    (aBook : PySem.W.nsIn K mainGlobals "Book" = some (some (.ref CBook)))
    (pgBook : PySem.W.plainGet K CBook Str.empty = true)
    (hdBook : PySem.W.hasDictIn K CBook = true)
    (poBook : PySem.W.plainOver K CBook = true)
    (saBook : PySem.W.findIn K (.ref CBook) "__setattr__" = some (some (.builtin "object.__setattr__")))
    (mkBook : PySem.W.makesIn K CBook = true)
    (kcBook : PySem.W.keepIn K (.ref CBook) = true)
    (nBook_cells : PySem.W.findIn K (.ref CBook) "_cells" = some none)
    (nBook_bodies : PySem.W.findIn K (.ref CBook) "_bodies" = some none)
    (qLIST_LIMIT : PySem.W.nsIn K mainGlobals "LIST_LIMIT" = some (some (.int 8 tLIST_LIMIT)))
    (qPROCEDURE_LIMIT : PySem.W.nsIn K mainGlobals "PROCEDURE_LIMIT" = some (some (.int 12 tPROCEDURE_LIMIT)))
    (qLAST_LEVEL : PySem.W.nsIn K mainGlobals "LAST_LEVEL" = some (some (.int 3 tLAST_LEVEL)))
    (qROW_LIMIT : PySem.W.nsIn K mainGlobals "ROW_LIMIT" = some (some (.int 9 tROW_LIMIT)))
    (qMOST_CELLS : PySem.W.nsIn K mainGlobals "MOST_CELLS" = some (some (.int 3 tMOST_CELLS)))
    (qMOST_PROCEDURES : PySem.W.nsIn K mainGlobals "MOST_PROCEDURES" = some (some (.int 3 tMOST_PROCEDURES)))
    (qSIZES : PySem.W.nsIn K mainGlobals "SIZES" = some (some (.ref a_SIZES)))
    (dSIZES : K.lookup a_SIZES = some ⟨.type "dict", none, .dict esSIZES nSIZES, #[]⟩)
    (klSIZES : PySem.W.KeysLit w.params esSIZES.toList)
    (loSIZES : (a_SIZES == sysModules) = false)
    (wSIZES0 : PySem.W.nsIn K a_SIZES "set" = some (some (.int 3 tSIZES0)))
    (wSIZES1 : PySem.W.nsIn K a_SIZES "carry" = some (some (.int 2 tSIZES1)))
    (wSIZES2 : PySem.W.nsIn K a_SIZES "keep" = some (some (.int 3 tSIZES2)))
    (wSIZES3 : PySem.W.nsIn K a_SIZES "either" = some (some (.int 3 tSIZES3)))
    (wSIZES4 : PySem.W.nsIn K a_SIZES "again" = some (some (.int 2 tSIZES4)))
    (wSIZES5 : PySem.W.nsIn K a_SIZES "call" = some (some (.int 4 tSIZES5)))
    (wSIZES6 : PySem.W.nsIn K a_SIZES "end" = some (some (.int 2 tSIZES6)))
    (aBook___init__ : PySem.W.findIn K (.ref CBook) "__init__" = some (some (.ref fBook___init__)))
    (iBook___init__ : PySem.W.isFn K (.ref fBook___init__) = true)
    (lBook___init__ : K.lookup fBook___init__ = some ⟨ocBook___init__, odBook___init__, .func (PySem.W.fnOf "__init__" "Book.__init__" (defArgs sBook___init__) (defBody sBook___init__) (defScope sBook___init__) .none kVBook___init__ dcBook___init__ pmBook___init__ anBook___init__ cdBook___init__ ctBook___init__), slBook___init__⟩)
    (cBook___init__ : PySem.W.codeIn K cdBook___init__ "Book.__init__" = true)
    (kBook___init__ : PySem.W.keepIn K (.ref fBook___init__) = true)
    (noStop : PySem.W.nsIn K a_SIZES "stop" = some none)
    (aNoCells : PySem.W.nsIn K mainGlobals "NoCells" = some (some (.ref CNoCells)))
    (xNoCells : PySem.W.excIn K CNoCells [.type "ValueError", .type "Exception", .type "BaseException", .type "object"] "ValueError.__new__" = true)
    (kNoCells : PySem.W.keepIn K (.ref CNoCells) = true)
    (bNoCells : PySem.W.subIn K (.ref CNoCells) (.type "BaseException") = some true)
    (tNoCells : PySem.W.typeIn K (.ref CNoCells) = some (.type "type"))
    (hdNoCells : PySem.W.hasDictIn K CNoCells = true)
    (aNoBook : PySem.W.nsIn K mainGlobals "NoBook" = some (some (.ref CNoBook)))
    (xNoBook : K.lookup CNoBook = some (excClassObj nmNoBook qnNoBook CNoBook dNNoBook bsNoBook bmNoBook true snNoBook suNoBook abNoBook coNoBook ddNoBook kaNoBook kbNoBook kcNoBook kdNoBook keNoBook "ValueError.__new__"))
    (rNoBook : PySem.HandSPX.refsVE bmNoBook = true)
    (saNoBook : PySem.W.findIn K (.ref CNoBook) "__setattr__" = some (some (.builtin "object.__setattr__")))
    (kNoBook : PySem.W.keepIn K (.ref CNoBook) = true)
    (bNoBook : PySem.W.subIn K (.ref CNoBook) (.type "BaseException") = some true)
    (tNoBook : PySem.W.typeIn K (.ref CNoBook) = some (.type "type"))
    (hdNoBook : PySem.W.hasDictIn K CNoBook = true)
    (xfNoBook : L2.xfB K CNoBook = true)
    (nNoBook_procedure : PySem.W.findIn K (.ref CNoBook) "procedure" = some none)
    (nNoBook_path : PySem.W.findIn K (.ref CNoBook) "path" = some none)
    (aNoBook___init__ : PySem.W.findIn K (.ref CNoBook) "__init__" = some (some (.ref fNoBook___init__)))
    (iNoBook___init__ : PySem.W.isFn K (.ref fNoBook___init__) = true)
    (lNoBook___init__ : K.lookup fNoBook___init__ = some ⟨ocNoBook___init__, odNoBook___init__, .func (PySem.W.fnOf "__init__" "NoBook.__init__" (defArgs sNoBook___init__) (defBody sNoBook___init__) (defScope sNoBook___init__) .none kVNoBook___init__ dcNoBook___init__ pmNoBook___init__ anNoBook___init__ cdNoBook___init__ ctNoBook___init__), slNoBook___init__⟩)
    (cNoBook___init__ : PySem.W.codeIn K cdNoBook___init__ "NoBook.__init__" = true)
    (kNoBook___init__ : PySem.W.keepIn K (.ref fNoBook___init__) = true)
    (tiNoBook : PySem.W.typeIn K (.ref fNoBook___init__) = some (.type "function"))
    (sNoCellsNoCells : PySem.W.subIn K (.ref CNoCells) (.ref CNoCells) = some true)
    (sNoBookNoCells : PySem.W.subIn K (.ref CNoBook) (.ref CNoCells) = some false)
    (sNoBookNoBook : PySem.W.subIn K (.ref CNoBook) (.ref CNoBook) = some true)
    (a_law_pool : PySem.W.nsIn K mainGlobals "_law_pool" = some (some (.ref f_law_pool)))
    (l_law_pool : K.lookup f_law_pool = some ⟨oc_law_pool, od_law_pool, .func (PySem.W.fnOf "_law_pool" "_law_pool" (defArgs s_law_pool) (defBody s_law_pool) (defScope s_law_pool) .none kV_law_pool dc_law_pool pm_law_pool an_law_pool cd_law_pool ct_law_pool), sl_law_pool⟩)
    (c_law_pool : PySem.W.codeIn K cd_law_pool "_law_pool" = true)
    (k_law_pool : PySem.W.keepIn K (.ref f_law_pool) = true)
    (a_law_draw : PySem.W.nsIn K mainGlobals "_law_draw" = some (some (.ref f_law_draw)))
    (l_law_draw : K.lookup f_law_draw = some ⟨oc_law_draw, od_law_draw, .func (PySem.W.fnOf "_law_draw" "_law_draw" (defArgs s_law_draw) (defBody s_law_draw) (defScope s_law_draw) .none kV_law_draw dc_law_draw pm_law_draw an_law_draw cd_law_draw ct_law_draw), sl_law_draw⟩)
    (c_law_draw : PySem.W.codeIn K cd_law_draw "_law_draw" = true)
    (k_law_draw : PySem.W.keepIn K (.ref f_law_draw) = true)
    (a_law_row : PySem.W.nsIn K mainGlobals "_law_row" = some (some (.ref f_law_row)))
    (l_law_row : K.lookup f_law_row = some ⟨oc_law_row, od_law_row, .func (PySem.W.fnOf "_law_row" "_law_row" (defArgs s_law_row) (defBody s_law_row) (defScope s_law_row) .none kV_law_row dc_law_row pm_law_row an_law_row cd_law_row ct_law_row), sl_law_row⟩)
    (c_law_row : PySem.W.codeIn K cd_law_row "_law_row" = true)
    (k_law_row : PySem.W.keepIn K (.ref f_law_row) = true)
    (a_law_command : PySem.W.nsIn K mainGlobals "_law_command" = some (some (.ref f_law_command)))
    (l_law_command : K.lookup f_law_command = some ⟨oc_law_command, od_law_command, .func (PySem.W.fnOf "_law_command" "_law_command" (defArgs s_law_command) (defBody s_law_command) (defScope s_law_command) .none kV_law_command dc_law_command pm_law_command an_law_command cd_law_command ct_law_command), sl_law_command⟩)
    (c_law_command : PySem.W.codeIn K cd_law_command "_law_command" = true)
    (k_law_command : PySem.W.keepIn K (.ref f_law_command) = true)
    (a_law_some_cells : PySem.W.nsIn K mainGlobals "_law_some_cells" = some (some (.ref f_law_some_cells)))
    (l_law_some_cells : K.lookup f_law_some_cells = some ⟨oc_law_some_cells, od_law_some_cells, .func (PySem.W.fnOf "_law_some_cells" "_law_some_cells" (defArgs s_law_some_cells) (defBody s_law_some_cells) (defScope s_law_some_cells) .none kV_law_some_cells dc_law_some_cells pm_law_some_cells an_law_some_cells cd_law_some_cells ct_law_some_cells), sl_law_some_cells⟩)
    (c_law_some_cells : PySem.W.codeIn K cd_law_some_cells "_law_some_cells" = true)
    (k_law_some_cells : PySem.W.keepIn K (.ref f_law_some_cells) = true)
    (a_law_block : PySem.W.nsIn K mainGlobals "_law_block" = some (some (.ref f_law_block)))
    (l_law_block : K.lookup f_law_block = some ⟨oc_law_block, od_law_block, .func (PySem.W.fnOf "_law_block" "_law_block" (defArgs s_law_block) (defBody s_law_block) (defScope s_law_block) .none kV_law_block dc_law_block pm_law_block an_law_block cd_law_block ct_law_block), sl_law_block⟩)
    (c_law_block : PySem.W.codeIn K cd_law_block "_law_block" = true)
    (k_law_block : PySem.W.keepIn K (.ref f_law_block) = true)
    (a_law_statement : PySem.W.nsIn K mainGlobals "_law_statement" = some (some (.ref f_law_statement)))
    (l_law_statement : K.lookup f_law_statement = some ⟨oc_law_statement, od_law_statement, .func (PySem.W.fnOf "_law_statement" "_law_statement" (defArgs s_law_statement) (defBody s_law_statement) (defScope s_law_statement) .none kV_law_statement dc_law_statement pm_law_statement an_law_statement cd_law_statement ct_law_statement), sl_law_statement⟩)
    (c_law_statement : PySem.W.codeIn K cd_law_statement "_law_statement" = true)
    (k_law_statement : PySem.W.keepIn K (.ref f_law_statement) = true)
    (a_law_body : PySem.W.nsIn K mainGlobals "_law_body" = some (some (.ref f_law_body)))
    (l_law_body : K.lookup f_law_body = some ⟨oc_law_body, od_law_body, .func (PySem.W.fnOf "_law_body" "_law_body" (defArgs s_law_body) (defBody s_law_body) (defScope s_law_body) .none kV_law_body dc_law_body pm_law_body an_law_body cd_law_body ct_law_body), sl_law_body⟩)
    (c_law_body : PySem.W.codeIn K cd_law_body "_law_body" = true)
    (k_law_body : PySem.W.keepIn K (.ref f_law_body) = true)
    (a_law_bodies : PySem.W.nsIn K mainGlobals "_law_bodies" = some (some (.ref f_law_bodies)))
    (l_law_bodies : K.lookup f_law_bodies = some ⟨oc_law_bodies, od_law_bodies, .func (PySem.W.fnOf "_law_bodies" "_law_bodies" (defArgs s_law_bodies) (defBody s_law_bodies) (defScope s_law_bodies) .none kV_law_bodies dc_law_bodies pm_law_bodies an_law_bodies cd_law_bodies ct_law_bodies), sl_law_bodies⟩)
    (c_law_bodies : PySem.W.codeIn K cd_law_bodies "_law_bodies" = true)
    (k_law_bodies : PySem.W.keepIn K (.ref f_law_bodies) = true)
    (a_law_copied : PySem.W.nsIn K mainGlobals "_law_copied" = some (some (.ref f_law_copied)))
    (l_law_copied : K.lookup f_law_copied = some ⟨oc_law_copied, od_law_copied, .func (PySem.W.fnOf "_law_copied" "_law_copied" (defArgs s_law_copied) (defBody s_law_copied) (defScope s_law_copied) .none kV_law_copied dc_law_copied pm_law_copied an_law_copied cd_law_copied ct_law_copied), sl_law_copied⟩)
    (c_law_copied : PySem.W.codeIn K cd_law_copied "_law_copied" = true)
    (k_law_copied : PySem.W.keepIn K (.ref f_law_copied) = true)
    (a_law_same : PySem.W.nsIn K mainGlobals "_law_same" = some (some (.ref f_law_same)))
    (l_law_same : K.lookup f_law_same = some ⟨oc_law_same, od_law_same, .func (PySem.W.fnOf "_law_same" "_law_same" (defArgs s_law_same) (defBody s_law_same) (defScope s_law_same) .none kV_law_same dc_law_same pm_law_same an_law_same cd_law_same ct_law_same), sl_law_same⟩)
    (c_law_same : PySem.W.codeIn K cd_law_same "_law_same" = true)
    (k_law_same : PySem.W.keepIn K (.ref f_law_same) = true)
    (a_law_blocks : PySem.W.nsIn K mainGlobals "_law_blocks" = some (some (.ref f_law_blocks)))
    (l_law_blocks : K.lookup f_law_blocks = some ⟨oc_law_blocks, od_law_blocks, .func (PySem.W.fnOf "_law_blocks" "_law_blocks" (defArgs s_law_blocks) (defBody s_law_blocks) (defScope s_law_blocks) .none kV_law_blocks dc_law_blocks pm_law_blocks an_law_blocks cd_law_blocks ct_law_blocks), sl_law_blocks⟩)
    (c_law_blocks : PySem.W.codeIn K cd_law_blocks "_law_blocks" = true)
    (k_law_blocks : PySem.W.keepIn K (.ref f_law_blocks) = true)
    (a_law_placed : PySem.W.nsIn K mainGlobals "_law_placed" = some (some (.ref f_law_placed)))
    (l_law_placed : K.lookup f_law_placed = some ⟨oc_law_placed, od_law_placed, .func (PySem.W.fnOf "_law_placed" "_law_placed" (defArgs s_law_placed) (defBody s_law_placed) (defScope s_law_placed) .none kV_law_placed dc_law_placed pm_law_placed an_law_placed cd_law_placed ct_law_placed), sl_law_placed⟩)
    (c_law_placed : PySem.W.codeIn K cd_law_placed "_law_placed" = true)
    (k_law_placed : PySem.W.keepIn K (.ref f_law_placed) = true)
    (a_law_is_integer : PySem.W.nsIn K mainGlobals "_law_is_integer" = some (some (.ref f_law_is_integer)))
    (l_law_is_integer : K.lookup f_law_is_integer = some ⟨oc_law_is_integer, od_law_is_integer, .func (PySem.W.fnOf "_law_is_integer" "_law_is_integer" (defArgs s_law_is_integer) (defBody s_law_is_integer) (defScope s_law_is_integer) .none kV_law_is_integer dc_law_is_integer pm_law_is_integer an_law_is_integer cd_law_is_integer ct_law_is_integer), sl_law_is_integer⟩)
    (c_law_is_integer : PySem.W.codeIn K cd_law_is_integer "_law_is_integer" = true)
    (k_law_is_integer : PySem.W.keepIn K (.ref f_law_is_integer) = true)
    (a_law_is_row : PySem.W.nsIn K mainGlobals "_law_is_row" = some (some (.ref f_law_is_row)))
    (l_law_is_row : K.lookup f_law_is_row = some ⟨oc_law_is_row, od_law_is_row, .func (PySem.W.fnOf "_law_is_row" "_law_is_row" (defArgs s_law_is_row) (defBody s_law_is_row) (defScope s_law_is_row) .none kV_law_is_row dc_law_is_row pm_law_is_row an_law_is_row cd_law_is_row ct_law_is_row), sl_law_is_row⟩)
    (c_law_is_row : PySem.W.codeIn K cd_law_is_row "_law_is_row" = true)
    (k_law_is_row : PySem.W.keepIn K (.ref f_law_is_row) = true)
    (a_law_is_index : PySem.W.nsIn K mainGlobals "_law_is_index" = some (some (.ref f_law_is_index)))
    (l_law_is_index : K.lookup f_law_is_index = some ⟨oc_law_is_index, od_law_is_index, .func (PySem.W.fnOf "_law_is_index" "_law_is_index" (defArgs s_law_is_index) (defBody s_law_is_index) (defScope s_law_is_index) .none kV_law_is_index dc_law_is_index pm_law_is_index an_law_is_index cd_law_is_index ct_law_is_index), sl_law_is_index⟩)
    (c_law_is_index : PySem.W.codeIn K cd_law_is_index "_law_is_index" = true)
    (k_law_is_index : PySem.W.keepIn K (.ref f_law_is_index) = true)
    (a_law_are_kept : PySem.W.nsIn K mainGlobals "_law_are_kept" = some (some (.ref f_law_are_kept)))
    (l_law_are_kept : K.lookup f_law_are_kept = some ⟨oc_law_are_kept, od_law_are_kept, .func (PySem.W.fnOf "_law_are_kept" "_law_are_kept" (defArgs s_law_are_kept) (defBody s_law_are_kept) (defScope s_law_are_kept) .none kV_law_are_kept dc_law_are_kept pm_law_are_kept an_law_are_kept cd_law_are_kept ct_law_are_kept), sl_law_are_kept⟩)
    (c_law_are_kept : PySem.W.codeIn K cd_law_are_kept "_law_are_kept" = true)
    (k_law_are_kept : PySem.W.keepIn K (.ref f_law_are_kept) = true)
    (a_law_is_statement : PySem.W.nsIn K mainGlobals "_law_is_statement" = some (some (.ref f_law_is_statement)))
    (l_law_is_statement : K.lookup f_law_is_statement = some ⟨oc_law_is_statement, od_law_is_statement, .func (PySem.W.fnOf "_law_is_statement" "_law_is_statement" (defArgs s_law_is_statement) (defBody s_law_is_statement) (defScope s_law_is_statement) .none kV_law_is_statement dc_law_is_statement pm_law_is_statement an_law_is_statement cd_law_is_statement ct_law_is_statement), sl_law_is_statement⟩)
    (c_law_is_statement : PySem.W.codeIn K cd_law_is_statement "_law_is_statement" = true)
    (k_law_is_statement : PySem.W.keepIn K (.ref f_law_is_statement) = true)
    (a_law_fault : PySem.W.nsIn K mainGlobals "_law_fault" = some (some (.ref f_law_fault)))
    (l_law_fault : K.lookup f_law_fault = some ⟨oc_law_fault, od_law_fault, .func (PySem.W.fnOf "_law_fault" "_law_fault" (defArgs s_law_fault) (defBody s_law_fault) (defScope s_law_fault) .none kV_law_fault dc_law_fault pm_law_fault an_law_fault cd_law_fault ct_law_fault), sl_law_fault⟩)
    (c_law_fault : PySem.W.codeIn K cd_law_fault "_law_fault" = true)
    (k_law_fault : PySem.W.keepIn K (.ref f_law_fault) = true)
    (a_law_due : PySem.W.nsIn K mainGlobals "_law_due" = some (some (.ref f_law_due)))
    (l_law_due : K.lookup f_law_due = some ⟨oc_law_due, od_law_due, .func (PySem.W.fnOf "_law_due" "_law_due" (defArgs s_law_due) (defBody s_law_due) (defScope s_law_due) .none kV_law_due dc_law_due pm_law_due an_law_due cd_law_due ct_law_due), sl_law_due⟩)
    (c_law_due : PySem.W.codeIn K cd_law_due "_law_due" = true)
    (k_law_due : PySem.W.keepIn K (.ref f_law_due) = true)
    (a_law_told : PySem.W.nsIn K mainGlobals "_law_told" = some (some (.ref f_law_told)))
    (l_law_told : K.lookup f_law_told = some ⟨oc_law_told, od_law_told, .func (PySem.W.fnOf "_law_told" "_law_told" (defArgs s_law_told) (defBody s_law_told) (defScope s_law_told) .none kV_law_told dc_law_told pm_law_told an_law_told cd_law_told ct_law_told), sl_law_told⟩)
    (c_law_told : PySem.W.codeIn K cd_law_told "_law_told" = true)
    (k_law_told : PySem.W.keepIn K (.ref f_law_told) = true)
    (a_law_wrong_thing : PySem.W.nsIn K mainGlobals "_law_wrong_thing" = some (some (.ref f_law_wrong_thing)))
    (l_law_wrong_thing : K.lookup f_law_wrong_thing = some ⟨oc_law_wrong_thing, od_law_wrong_thing, .func (PySem.W.fnOf "_law_wrong_thing" "_law_wrong_thing" (defArgs s_law_wrong_thing) (defBody s_law_wrong_thing) (defScope s_law_wrong_thing) .none kV_law_wrong_thing dc_law_wrong_thing pm_law_wrong_thing an_law_wrong_thing cd_law_wrong_thing ct_law_wrong_thing), sl_law_wrong_thing⟩)
    (c_law_wrong_thing : PySem.W.codeIn K cd_law_wrong_thing "_law_wrong_thing" = true)
    (k_law_wrong_thing : PySem.W.keepIn K (.ref f_law_wrong_thing) = true)
    (a_law_with : PySem.W.nsIn K mainGlobals "_law_with" = some (some (.ref f_law_with)))
    (l_law_with : K.lookup f_law_with = some ⟨oc_law_with, od_law_with, .func (PySem.W.fnOf "_law_with" "_law_with" (defArgs s_law_with) (defBody s_law_with) (defScope s_law_with) .none kV_law_with dc_law_with pm_law_with an_law_with cd_law_with ct_law_with), sl_law_with⟩)
    (c_law_with : PySem.W.codeIn K cd_law_with "_law_with" = true)
    (k_law_with : PySem.W.keepIn K (.ref f_law_with) = true)
    (a_law_wrong_body : PySem.W.nsIn K mainGlobals "_law_wrong_body" = some (some (.ref f_law_wrong_body)))
    (l_law_wrong_body : K.lookup f_law_wrong_body = some ⟨oc_law_wrong_body, od_law_wrong_body, .func (PySem.W.fnOf "_law_wrong_body" "_law_wrong_body" (defArgs s_law_wrong_body) (defBody s_law_wrong_body) (defScope s_law_wrong_body) .none kV_law_wrong_body dc_law_wrong_body pm_law_wrong_body an_law_wrong_body cd_law_wrong_body ct_law_wrong_body), sl_law_wrong_body⟩)
    (c_law_wrong_body : PySem.W.codeIn K cd_law_wrong_body "_law_wrong_body" = true)
    (k_law_wrong_body : PySem.W.keepIn K (.ref f_law_wrong_body) = true)
    (alaw : PySem.W.nsIn K mainGlobals "law" = some (some (.ref flaw)))
    (llaw : K.lookup flaw = some ⟨oclaw, odlaw, .func (PySem.W.fnOf "law" "law" (defArgs slaw) (defBody slaw) (defScope slaw) .none kVlaw dclaw pmlaw anlaw cdlaw ctlaw), sllaw⟩)
    (claw : PySem.W.codeIn K cdlaw "law" = true)
    (klaw : PySem.W.keepIn K (.ref flaw) = true)
    (y_int : PySem.W.nsIn K mainGlobals "int" = some none)
    (y_len : PySem.W.nsIn K mainGlobals "len" = some none)
    (y_list : PySem.W.nsIn K mainGlobals "list" = some none)
    (y_tuple : PySem.W.nsIn K mainGlobals "tuple" = some none)
    (y_range : PySem.W.nsIn K mainGlobals "range" = some none)
    (y_isinstance : PySem.W.nsIn K mainGlobals "isinstance" = some none)
    (y_bool : PySem.W.nsIn K mainGlobals "bool" = some none)
    (y_str : PySem.W.nsIn K mainGlobals "str" = some none)
    (y_dict : PySem.W.nsIn K mainGlobals "dict" = some none)
    (y_all : PySem.W.nsIn K mainGlobals "all" = some none)
    (y_zip : PySem.W.nsIn K mainGlobals "zip" = some none)
    (y_enumerate : PySem.W.nsIn K mainGlobals "enumerate" = some none)
    (y_reversed : PySem.W.nsIn K mainGlobals "reversed" = some none) :
    ∃ fd : FuncData, (∀ (s : Shared) (v : Value), BindsTo s fd ⟨[v], []⟩ [("script", v)]) ∧ ∀ base : Heap, K.In base → base.Ns mainGlobals mg → FnOk l.prog w K mg base CX0 27 fa fd ["script"] (spLaw K) := by
  have e := hfa.symm.trans (PySem.W.mg_of X G alaw)
  cases e
  have Fis_integer := fun_mk (st := sis_integer) lis_integer cis_integer kis_integer
  have bis_integer := Fis_integer.binds (ps := ["value"]) fun _ _ _ _ _ _ us hl => match us, hl with | [_], _ => rfl
  have gis_integer := PySem.W.mg_of X G ais_integer
  have Fis_between := fun_mk (st := sis_between) lis_between cis_between kis_between
  have bis_between := Fis_between.binds (ps := ["value", "low", "high"]) fun _ _ _ _ _ _ us hl => match us, hl with | [_, _, _], _ => rfl
  have gis_between := PySem.W.mg_of X G ais_between
  have Fis_bit := fun_mk (st := sis_bit) lis_bit cis_bit kis_bit
  have bis_bit := Fis_bit.binds (ps := ["value"]) fun _ _ _ _ _ _ us hl => match us, hl with | [_], _ => rfl
  have gis_bit := PySem.W.mg_of X G ais_bit
  have Fis_index := fun_mk (st := sis_index) lis_index cis_index kis_index
  have bis_index := Fis_index.binds (ps := ["value", "many"]) fun _ _ _ _ _ _ us hl => match us, hl with | [_, _], _ => rfl
  have gis_index := PySem.W.mg_of X G ais_index
  have Fis_cell_list := fun_mk (st := sis_cell_list) lis_cell_list cis_cell_list kis_cell_list
  have bis_cell_list := Fis_cell_list.binds (ps := ["value", "cells"]) fun _ _ _ _ _ _ us hl => match us, hl with | [_, _], _ => rfl
  have gis_cell_list := PySem.W.mg_of X G ais_cell_list
  have Fcopied := fun_mk (st := scopied) lcopied ccopied kcopied
  have bcopied := Fcopied.binds (ps := ["value"]) fun _ _ _ _ _ _ us hl => match us, hl with | [_], _ => rfl
  have gcopied := PySem.W.mg_of X G acopied
  have Fis_row := fun_mk (st := sis_row) lis_row cis_row kis_row
  have bis_row := Fis_row.binds (ps := ["value", "cells"]) fun _ _ _ _ _ _ us hl => match us, hl with | [_, _], _ => rfl
  have gis_row := PySem.W.mg_of X G ais_row
  have Fis_block_pair := fun_mk (st := sis_block_pair) lis_block_pair cis_block_pair kis_block_pair
  have bis_block_pair := Fis_block_pair.binds (ps := ["value"]) fun _ _ _ _ _ _ us hl => match us, hl with | [_], _ => rfl
  have gis_block_pair := PySem.W.mg_of X G ais_block_pair
  have Fis_sized := fun_mk (st := sis_sized) lis_sized cis_sized kis_sized
  have bis_sized := Fis_sized.binds (ps := ["value"]) fun _ _ _ _ _ _ us hl => match us, hl with | [_], _ => rfl
  have gis_sized := PySem.W.mg_of X G ais_sized
  have Fis_statement := fun_mk (st := sis_statement) lis_statement cis_statement kis_statement
  have bis_statement := Fis_statement.binds (ps := ["value", "cells", "procedures"]) fun _ _ _ _ _ _ us hl => match us, hl with | [_, _, _], _ => rfl
  have gis_statement := PySem.W.mg_of X G ais_statement
  have Fblocks_of := fun_mk (st := sblocks_of) lblocks_of cblocks_of kblocks_of
  have bblocks_of := Fblocks_of.binds (ps := ["statement"]) fun _ _ _ _ _ _ us hl => match us, hl with | [_], _ => rfl
  have gblocks_of := PySem.W.mg_of X G ablocks_of
  have Fplaces := fun_mk (st := splaces) lplaces cplaces kplaces
  have bplaces := Fplaces.binds (ps := ["body"]) fun _ _ _ _ _ _ us hl => match us, hl with | [_], _ => rfl
  have gplaces := PySem.W.mg_of X G aplaces
  have Fentries := fun_mk (st := sentries) lentries centries kentries
  have bentries := Fentries.binds (ps := ["block", "path"]) fun _ _ _ _ _ _ us hl => match us, hl with | [_, _], _ => rfl
  have gentries := PySem.W.mg_of X G aentries
  have Ffits := fun_mk (st := sfits) lfits cfits kfits
  have bfits := Ffits.binds (ps := ["value", "path", "cells", "procedures"]) fun _ _ _ _ _ _ us hl => match us, hl with | [_, _, _, _], _ => rfl
  have gfits := PySem.W.mg_of X G afits
  have Ffirst_fault := fun_mk (st := sfirst_fault) lfirst_fault cfirst_fault kfirst_fault
  have bfirst_fault := Ffirst_fault.binds (ps := ["body", "cells", "procedures"]) fun _ _ _ _ _ _ us hl => match us, hl with | [_, _, _], _ => rfl
  have gfirst_fault := PySem.W.mg_of X G afirst_fault
  have Fcheck_bodies := fun_mk (st := scheck_bodies) lcheck_bodies ccheck_bodies kcheck_bodies
  have bcheck_bodies := Fcheck_bodies.binds (ps := ["cells", "bodies"]) fun _ _ _ _ _ _ us hl => match us, hl with | [_, _], _ => rfl
  have gcheck_bodies := PySem.W.mg_of X G acheck_bodies
  have Fstatement_at := fun_mk (st := sstatement_at) lstatement_at cstatement_at kstatement_at
  have bstatement_at := Fstatement_at.binds (ps := ["body", "path"]) fun _ _ _ _ _ _ us hl => match us, hl with | [_, _], _ => rfl
  have gstatement_at := PySem.W.mg_of X G astatement_at
  have gBook := PySem.W.mg_of X G aBook
  have clBook : Cls K CBook := ⟨pgBook, hdBook, poBook, saBook⟩
  have c_LIST_LIMIT := PySem.W.mg_of X G qLIST_LIMIT
  have c_PROCEDURE_LIMIT := PySem.W.mg_of X G qPROCEDURE_LIMIT
  have c_LAST_LEVEL := PySem.W.mg_of X G qLAST_LEVEL
  have c_ROW_LIMIT := PySem.W.mg_of X G qROW_LIMIT
  have c_MOST_CELLS := PySem.W.mg_of X G qMOST_CELLS
  have c_MOST_PROCEDURES := PySem.W.mg_of X G qMOST_PROCEDURES
  have c_SIZES := PySem.W.mg_of X G qSIZES
  have FBook___init__ := fun_mk (st := sBook___init__) lBook___init__ cBook___init__ kBook___init__
  have bBook___init__ := FBook___init__.binds (ps := ["self", "cells", "bodies"]) fun _ _ _ _ _ _ us hl => match us, hl with | [_, _, _], _ => rfl
  have gNoCells := PySem.W.mg_of X G aNoCells
  have gNoBook := PySem.W.mg_of X G aNoBook
  have FNoBook___init__ := fun_mk (st := sNoBook___init__) lNoBook___init__ cNoBook___init__ kNoBook___init__
  have bNoBook___init__ := FNoBook___init__.binds (ps := ["self", "procedure", "path"]) fun _ _ _ _ _ _ us hl => match us, hl with | [_, _, _], _ => rfl
  have TNoBook : L2.OexC K CNoBook := ⟨⟨_, _, _, _, _, _, _, _, _, _, _, _, _, _, _, xNoBook, rNoBook⟩, saNoBook, bNoBook, tNoBook, kNoBook⟩
  have eNoCellsNoCells : PySem.W.exmOne K (.ref CNoCells) (.ref CNoCells) = some true := PySem.W.exm_ref bNoCells hdNoCells tNoCells sNoCellsNoCells
  have eNoBookNoCells : PySem.W.exmOne K (.ref CNoBook) (.ref CNoCells) = some false := PySem.W.exm_ref bNoCells hdNoCells tNoCells sNoBookNoCells
  have eNoBookNoBook : PySem.W.exmOne K (.ref CNoBook) (.ref CNoBook) = some true := PySem.W.exm_ref bNoBook hdNoBook tNoBook sNoBookNoBook
  have F_law_pool := fun_mk (st := s_law_pool) l_law_pool c_law_pool k_law_pool
  have b_law_pool := F_law_pool.binds (ps := ["script"]) fun _ _ _ _ _ _ us hl => match us, hl with | [_], _ => rfl
  have g_law_pool := PySem.W.mg_of X G a_law_pool
  have F_law_draw := fun_mk (st := s_law_draw) l_law_draw c_law_draw k_law_draw
  have b_law_draw := F_law_draw.binds (ps := ["pool", "many"]) fun _ _ _ _ _ _ us hl => match us, hl with | [_, _], _ => rfl
  have g_law_draw := PySem.W.mg_of X G a_law_draw
  have F_law_row := fun_mk (st := s_law_row) l_law_row c_law_row k_law_row
  have b_law_row := F_law_row.binds (ps := ["pool", "cells"]) fun _ _ _ _ _ _ us hl => match us, hl with | [_, _], _ => rfl
  have g_law_row := PySem.W.mg_of X G a_law_row
  have F_law_command := fun_mk (st := s_law_command) l_law_command c_law_command k_law_command
  have b_law_command := F_law_command.binds (ps := ["pool", "cells"]) fun _ _ _ _ _ _ us hl => match us, hl with | [_, _], _ => rfl
  have g_law_command := PySem.W.mg_of X G a_law_command
  have F_law_some_cells := fun_mk (st := s_law_some_cells) l_law_some_cells c_law_some_cells k_law_some_cells
  have b_law_some_cells := F_law_some_cells.binds (ps := ["pool", "cells"]) fun _ _ _ _ _ _ us hl => match us, hl with | [_, _], _ => rfl
  have g_law_some_cells := PySem.W.mg_of X G a_law_some_cells
  have F_law_block := fun_mk (st := s_law_block) l_law_block c_law_block k_law_block
  have b_law_block := F_law_block.binds (ps := ["pool", "world", "tier", "most"]) fun _ _ _ _ _ _ us hl => match us, hl with | [_, _, _, _], _ => rfl
  have g_law_block := PySem.W.mg_of X G a_law_block
  have F_law_statement := fun_mk (st := s_law_statement) l_law_statement c_law_statement k_law_statement
  have b_law_statement := F_law_statement.binds (ps := ["pool", "world", "tier"]) fun _ _ _ _ _ _ us hl => match us, hl with | [_, _, _], _ => rfl
  have g_law_statement := PySem.W.mg_of X G a_law_statement
  have F_law_body := fun_mk (st := s_law_body) l_law_body c_law_body k_law_body
  have b_law_body := F_law_body.binds (ps := ["pool", "cells", "many", "room", "tier"]) fun _ _ _ _ _ _ us hl => match us, hl with | [_, _, _, _, _], _ => rfl
  have g_law_body := PySem.W.mg_of X G a_law_body
  have F_law_bodies := fun_mk (st := s_law_bodies) l_law_bodies c_law_bodies k_law_bodies
  have b_law_bodies := F_law_bodies.binds (ps := ["pool", "cells", "many", "room"]) fun _ _ _ _ _ _ us hl => match us, hl with | [_, _, _, _], _ => rfl
  have g_law_bodies := PySem.W.mg_of X G a_law_bodies
  have F_law_copied := fun_mk (st := s_law_copied) l_law_copied c_law_copied k_law_copied
  have b_law_copied := F_law_copied.binds (ps := ["value"]) fun _ _ _ _ _ _ us hl => match us, hl with | [_], _ => rfl
  have g_law_copied := PySem.W.mg_of X G a_law_copied
  have F_law_same := fun_mk (st := s_law_same) l_law_same c_law_same k_law_same
  have b_law_same := F_law_same.binds (ps := ["actual", "due"]) fun _ _ _ _ _ _ us hl => match us, hl with | [_, _], _ => rfl
  have g_law_same := PySem.W.mg_of X G a_law_same
  have F_law_blocks := fun_mk (st := s_law_blocks) l_law_blocks c_law_blocks k_law_blocks
  have b_law_blocks := F_law_blocks.binds (ps := ["statement"]) fun _ _ _ _ _ _ us hl => match us, hl with | [_], _ => rfl
  have g_law_blocks := PySem.W.mg_of X G a_law_blocks
  have F_law_placed := fun_mk (st := s_law_placed) l_law_placed c_law_placed k_law_placed
  have b_law_placed := F_law_placed.binds (ps := ["block", "path"]) fun _ _ _ _ _ _ us hl => match us, hl with | [_, _], _ => rfl
  have g_law_placed := PySem.W.mg_of X G a_law_placed
  have F_law_is_integer := fun_mk (st := s_law_is_integer) l_law_is_integer c_law_is_integer k_law_is_integer
  have b_law_is_integer := F_law_is_integer.binds (ps := ["thing"]) fun _ _ _ _ _ _ us hl => match us, hl with | [_], _ => rfl
  have g_law_is_integer := PySem.W.mg_of X G a_law_is_integer
  have F_law_is_row := fun_mk (st := s_law_is_row) l_law_is_row c_law_is_row k_law_is_row
  have b_law_is_row := F_law_is_row.binds (ps := ["thing", "cells"]) fun _ _ _ _ _ _ us hl => match us, hl with | [_, _], _ => rfl
  have g_law_is_row := PySem.W.mg_of X G a_law_is_row
  have F_law_is_index := fun_mk (st := s_law_is_index) l_law_is_index c_law_is_index k_law_is_index
  have b_law_is_index := F_law_is_index.binds (ps := ["thing", "many"]) fun _ _ _ _ _ _ us hl => match us, hl with | [_, _], _ => rfl
  have g_law_is_index := PySem.W.mg_of X G a_law_is_index
  have F_law_are_kept := fun_mk (st := s_law_are_kept) l_law_are_kept c_law_are_kept k_law_are_kept
  have b_law_are_kept := F_law_are_kept.binds (ps := ["thing", "cells"]) fun _ _ _ _ _ _ us hl => match us, hl with | [_, _], _ => rfl
  have g_law_are_kept := PySem.W.mg_of X G a_law_are_kept
  have F_law_is_statement := fun_mk (st := s_law_is_statement) l_law_is_statement c_law_is_statement k_law_is_statement
  have b_law_is_statement := F_law_is_statement.binds (ps := ["thing", "cells", "many", "level"]) fun _ _ _ _ _ _ us hl => match us, hl with | [_, _, _, _], _ => rfl
  have g_law_is_statement := PySem.W.mg_of X G a_law_is_statement
  have F_law_fault := fun_mk (st := s_law_fault) l_law_fault c_law_fault k_law_fault
  have b_law_fault := F_law_fault.binds (ps := ["block", "cells", "many", "level", "path", "met"]) fun _ _ _ _ _ _ us hl => match us, hl with | [_, _, _, _, _, _], _ => rfl
  have g_law_fault := PySem.W.mg_of X G a_law_fault
  have F_law_due := fun_mk (st := s_law_due) l_law_due c_law_due k_law_due
  have b_law_due := F_law_due.binds (ps := ["cells", "bodies"]) fun _ _ _ _ _ _ us hl => match us, hl with | [_, _], _ => rfl
  have g_law_due := PySem.W.mg_of X G a_law_due
  have F_law_told := fun_mk (st := s_law_told) l_law_told c_law_told k_law_told
  have b_law_told := F_law_told.binds (ps := ["cells", "bodies"]) fun _ _ _ _ _ _ us hl => match us, hl with | [_, _], _ => rfl
  have g_law_told := PySem.W.mg_of X G a_law_told
  have F_law_wrong_thing := fun_mk (st := s_law_wrong_thing) l_law_wrong_thing c_law_wrong_thing k_law_wrong_thing
  have b_law_wrong_thing := F_law_wrong_thing.binds (ps := ["pool", "cells", "many"]) fun _ _ _ _ _ _ us hl => match us, hl with | [_, _, _], _ => rfl
  have g_law_wrong_thing := PySem.W.mg_of X G a_law_wrong_thing
  have F_law_with := fun_mk (st := s_law_with) l_law_with c_law_with k_law_with
  have b_law_with := F_law_with.binds (ps := ["block", "path", "things"]) fun _ _ _ _ _ _ us hl => match us, hl with | [_, _, _], _ => rfl
  have g_law_with := PySem.W.mg_of X G a_law_with
  have F_law_wrong_body := fun_mk (st := s_law_wrong_body) l_law_wrong_body c_law_wrong_body k_law_wrong_body
  have b_law_wrong_body := F_law_wrong_body.binds (ps := ["pool", "body", "cells", "many"]) fun _ _ _ _ _ _ us hl => match us, hl with | [_, _, _, _], _ => rfl
  have g_law_wrong_body := PySem.W.mg_of X G a_law_wrong_body
  have Flaw := fun_mk (st := slaw) llaw claw klaw
  have blaw := Flaw.binds (ps := ["script"]) fun _ _ _ _ _ _ us hl => match us, hl with | [_], _ => rfl
  have glaw := PySem.W.mg_of X G alaw
  have z_int := PySem.W.mg_none_of X G y_int
  have z_len := PySem.W.mg_none_of X G y_len
  have z_list := PySem.W.mg_none_of X G y_list
  have z_tuple := PySem.W.mg_none_of X G y_tuple
  have z_range := PySem.W.mg_none_of X G y_range
  have z_isinstance := PySem.W.mg_none_of X G y_isinstance
  have z_bool := PySem.W.mg_none_of X G y_bool
  have z_str := PySem.W.mg_none_of X G y_str
  have z_dict := PySem.W.mg_none_of X G y_dict
  have z_all := PySem.W.mg_none_of X G y_all
  have z_zip := PySem.W.mg_none_of X G y_zip
  have z_enumerate := PySem.W.mg_none_of X G y_enumerate
  have z_reversed := PySem.W.mg_none_of X G y_reversed
  refine ⟨PySem.W.fnOf "law" "law" (defArgs slaw) (defBody slaw) (defScope slaw) .none kVlaw dclaw pmlaw anlaw cdlaw ctlaw, fun s v => .of_eq rfl, fun base _ _ => ?_⟩
  have S7 : Sizes K w a_SIZES esSIZES nSIZES ok7 := sizes7 ⟨dSIZES, klSIZES, loSIZES⟩ wSIZES0 wSIZES1 wSIZES2 wSIZES3 wSIZES4 wSIZES5 wSIZES6
  have S8 : Sizes K w a_SIZES esSIZES nSIZES ok8 := sizes8 S7 noStop
  have Cis_integer : Cal l.prog w K mg base 1 "is_integer" (spInt K) [] := ⟨_, _, _, [], ok_is_integer Fis_integer z_isinstance z_int z_bool, gis_integer, Fis_integer.kp, bis_integer, .nil⟩
  have Cis_between : Cal l.prog w K mg base 2 "is_between" (spBtw K) [] := ⟨_, _, _, [], ok_is_between Fis_between Cis_integer (by decide), gis_between, Fis_between.kp, bis_between, .nil⟩
  have Cis_bit : Cal l.prog w K mg base 3 "is_bit" (spBit K) [] := ⟨_, _, _, [], ok_is_bit Fis_bit Cis_between (by decide), gis_bit, Fis_bit.kp, bis_bit, .nil⟩
  have Cis_index : Cal l.prog w K mg base 3 "is_index" (spIx K) [] := ⟨_, _, _, [], ok_is_index Fis_index Cis_between (by decide), gis_index, Fis_index.kp, bis_index, .nil⟩
  have Cis_row : Cal l.prog w K mg base 3 "is_row" (spRw K) [] := ⟨_, _, _, [], ok_is_row Fis_row z_isinstance z_list z_len z_all c_ROW_LIMIT Cis_between (by decide), gis_row, Fis_row.kp, bis_row, .nil⟩
  have Cis_block_pair : Cal l.prog w K mg base 1 "is_block_pair" (spPair K) [] := ⟨_, _, _, [], ok_is_block_pair Fis_block_pair z_isinstance z_list z_len, gis_block_pair, Fis_block_pair.kp, bis_block_pair, .nil⟩
  have Cis_sized : Cal l.prog w K mg base 1 "is_sized" (spSized K ok8) [] := ⟨_, _, _, [], ok_is_sized Fis_sized z_isinstance z_tuple z_str z_len c_SIZES S8, gis_sized, Fis_sized.kp, bis_sized, .nil⟩
  have Cis_cell_list : Cal l.prog w K mg base 4 "is_cell_list" (spCl K) [] := ⟨_, _, _, [], ok_is_cell_list Fis_cell_list z_isinstance z_list z_all z_zip Cis_index (by decide), gis_cell_list, Fis_cell_list.kp, bis_cell_list, .nil⟩
  have Cis_statement : Cal l.prog w K mg base 5 "is_statement" (spStm K ok8) [] := ⟨_, _, _, [], ok_is_statement Fis_statement z_isinstance z_list Cis_sized Cis_index Cis_bit Cis_row Cis_cell_list Cis_block_pair (by decide), gis_statement, Fis_statement.kp, bis_statement, .nil⟩
  have Cblocks_of : Cal l.prog w K mg base 1 "blocks_of" (spBlocks K) [] := ⟨_, _, _, [], ok_blocks_of Fblocks_of, gblocks_of, Fblocks_of.kp, bblocks_of, .nil⟩
  have Centries : Cal l.prog w K mg base 1 "entries" (spEntries K) [] := ⟨_, _, _, [], ok_entries Fentries z_range z_reversed z_len, gentries, Fentries.kp, bentries, .nil⟩
  have Cfits : Cal l.prog w K mg base 6 "fits" (spFits K ok8) [] := ⟨_, _, _, [], ok_fits Ffits z_len c_LIST_LIMIT c_LAST_LEVEL Cis_statement Cblocks_of (by decide), gfits, Ffits.kp, bfits, .nil⟩
  have Cfirst_fault : Cal l.prog w K mg base 7 "first_fault" (spFF K ok8) [] := ⟨_, _, _, [], ok_first_fault Ffirst_fault z_range z_reversed z_len c_PROCEDURE_LIMIT Centries Cfits Cblocks_of (by decide), gfirst_fault, Ffirst_fault.kp, bfirst_fault, .nil⟩
  have Ccopied : Cal l.prog w K mg base 15 "copied" (spCopy K 15) [] := ⟨_, _, _, [], ok_copied Fcopied gcopied bcopied z_isinstance z_list z_tuple z_dict 15, gcopied, Fcopied.kp, bcopied, .nil⟩
  have MB : L2.Mk K CBook fBook___init__ := ⟨mkBook, aBook___init__, iBook___init__, kcBook⟩
  have ON := ok_nobook (P := l.prog) (w := w) (base := base) (k := 15) (cn := 15) FNoBook___init__ TNoBook nNoBook_procedure nNoBook_path Ccopied (by decide)
  have OK := ok_check_all (P := l.prog) (w := w) (base := base) (k := 17) Fcheck_bodies z_isinstance z_list z_len z_enumerate c_MOST_PROCEDURES TNoBook aNoBook___init__ tiNoBook ON bNoBook___init__ gNoBook Cfirst_fault (by decide)
  have OI := ok_init_all (P := l.prog) (w := w) (base := base) (k := 18) FBook___init__ clBook nBook_cells nBook_bodies c_MOST_CELLS xNoCells gNoCells kNoCells bNoCells tNoCells PySem.F.excBase_ValueError OK gcheck_bodies kcheck_bodies bcheck_bodies Cis_between Ccopied (by decide)
  have C_law_pool : Cal l.prog w K mg base 1 "_law_pool" (spPool K) [] := ⟨_, _, _, [], ok_pool F_law_pool z_int z_list, g_law_pool, F_law_pool.kp, b_law_pool, .nil⟩
  have C_law_draw : Cal l.prog w K mg base 1 "_law_draw" spDraw [] := ⟨_, _, _, [], ok_draw F_law_draw z_int z_len, g_law_draw, F_law_draw.kp, b_law_draw, .nil⟩
  have C_law_row : Cal l.prog w K mg base 2 "_law_row" spRow [] := ⟨_, _, _, [], ok_row F_law_row z_range C_law_draw (by decide), g_law_row, F_law_row.kp, b_law_row, .nil⟩
  have C_law_command : Cal l.prog w K mg base 3 "_law_command" spCmd [] := ⟨_, _, _, [], ok_command F_law_command C_law_draw C_law_row (by decide), g_law_command, F_law_command.kp, b_law_command, .nil⟩
  have C_law_some_cells : Cal l.prog w K mg base 2 "_law_some_cells" spCells [] := ⟨_, _, _, [], ok_cells F_law_some_cells z_range C_law_draw (by decide), g_law_some_cells, F_law_some_cells.kp, b_law_some_cells, .nil⟩
  have LV := gen_levels F_law_statement F_law_block g_law_statement g_law_block b_law_statement b_law_block z_range C_law_draw C_law_row C_law_command C_law_some_cells
  have C_law_statement : Cal l.prog w K mg base 10 "_law_statement" (spStmt 0) [] := (LV 3 1 rfl).2 0 rfl
  have C_law_block : Cal l.prog w K mg base 11 "_law_block" (spBlk 0) [] := (LV 4 0 rfl).1
  have C_law_body : Cal l.prog w K mg base 12 "_law_body" spBody [] := ⟨_, _, _, [], ok_body F_law_body C_law_statement C_law_block (by decide), g_law_body, F_law_body.kp, b_law_body, .nil⟩
  have C_law_bodies : Cal l.prog w K mg base 13 "_law_bodies" spBodies [] := ⟨_, _, _, [], ok_bodies F_law_bodies z_range C_law_body (by decide), g_law_bodies, F_law_bodies.kp, b_law_bodies, .nil⟩
  have C_law_copied : Cal l.prog w K mg base 26 "_law_copied" (spCopy K 26) [] := ⟨_, _, _, [], ok_lcopied F_law_copied g_law_copied b_law_copied z_isinstance z_list z_tuple 26, g_law_copied, F_law_copied.kp, b_law_copied, .nil⟩
  have C_law_same : Cal l.prog w K mg base 15 "_law_same" (spSame K 15) [] := ⟨_, _, _, [], ok_same F_law_same g_law_same b_law_same z_len z_isinstance z_bool z_int z_str z_list z_tuple z_range 15, g_law_same, F_law_same.kp, b_law_same, .nil⟩
  have C_law_blocks : Cal l.prog w K mg base 1 "_law_blocks" (spLBlocks K) [] := ⟨_, _, _, [], ok_lblocks F_law_blocks, g_law_blocks, F_law_blocks.kp, b_law_blocks, .nil⟩
  have C_law_placed : Cal l.prog w K mg base 5 "_law_placed" (spPlaced K 5) [] := ⟨_, _, _, [], ok_placed F_law_placed g_law_placed b_law_placed z_range z_len C_law_blocks 5, g_law_placed, F_law_placed.kp, b_law_placed, .nil⟩
  have C_law_is_integer : Cal l.prog w K mg base 1 "_law_is_integer" (spInt K) [] := ⟨_, _, _, [], ok_lis_integer F_law_is_integer z_isinstance z_int z_bool, g_law_is_integer, F_law_is_integer.kp, b_law_is_integer, .nil⟩
  have C_law_is_index : Cal l.prog w K mg base 2 "_law_is_index" (spIx K) [] := ⟨_, _, _, [], ok_lis_index F_law_is_index C_law_is_integer (by decide), g_law_is_index, F_law_is_index.kp, b_law_is_index, .nil⟩
  have C_law_is_row : Cal l.prog w K mg base 2 "_law_is_row" (spRw K) [] := ⟨_, _, _, [], ok_lis_row F_law_is_row z_isinstance z_list z_len C_law_is_integer (by decide), g_law_is_row, F_law_is_row.kp, b_law_is_row, .nil⟩
  have C_law_are_kept : Cal l.prog w K mg base 3 "_law_are_kept" (spCl K) [] := ⟨_, _, _, [], ok_lare_kept F_law_are_kept z_isinstance z_list C_law_is_index (by decide), g_law_are_kept, F_law_are_kept.kp, b_law_are_kept, .nil⟩
  have C_law_is_statement : Cal l.prog w K mg base 4 "_law_is_statement" (spLStm K) [] := ⟨_, _, _, [], ok_lis_statement F_law_is_statement z_isinstance z_list z_tuple z_str z_len C_law_is_index C_law_is_row C_law_are_kept (by decide), g_law_is_statement, F_law_is_statement.kp, b_law_is_statement, .nil⟩
  have C_law_fault : Cal l.prog w K mg base 8 "_law_fault" (spLF K 4) [] := ⟨_, _, _, [], ok_lfault F_law_fault g_law_fault b_law_fault z_range z_len C_law_is_statement C_law_blocks 4, g_law_fault, F_law_fault.kp, b_law_fault, .nil⟩
  have C_law_due : Cal l.prog w K mg base 9 "_law_due" (spDue K ok8) [] := ⟨_, _, _, [], ok_due F_law_due z_isinstance z_list z_len z_range C_law_is_integer C_law_fault (by decide), g_law_due, F_law_due.kp, b_law_due, .nil⟩
  have C_law_told : Cal l.prog w K mg base 21 "_law_told" (spTold K ok8) [] := ⟨_, _, _, [], ok_told (k := 20) F_law_told MB gBook OI bBook___init__ gNoCells gNoBook eNoCellsNoCells eNoBookNoCells eNoBookNoBook (L2.xfB_ok xfNoBook) nNoBook_procedure nNoBook_path (by decide), g_law_told, F_law_told.kp, b_law_told, .nil⟩
  have C_law_wrong_thing : Cal l.prog w K mg base 2 "_law_wrong_thing" (spWT K) [] := ⟨_, _, _, [], ok_thing F_law_wrong_thing z_range z_tuple C_law_draw (by decide), g_law_wrong_thing, F_law_wrong_thing.kp, b_law_wrong_thing, .nil⟩
  have C_law_with : Cal l.prog w K mg base 5 "_law_with" (spWith K 5) [] := ⟨_, _, _, [], ok_with F_law_with g_law_with b_law_with z_len z_list z_tuple C_law_blocks 5, g_law_with, F_law_with.kp, b_law_with, .nil⟩
  have C_law_wrong_body : Cal l.prog w K mg base 6 "_law_wrong_body" (spWB K) [] := ⟨_, _, _, [], ok_wbody F_law_wrong_body z_len z_list z_range C_law_draw C_law_placed C_law_with C_law_wrong_thing (by decide), g_law_wrong_body, F_law_wrong_body.kp, b_law_wrong_body, .nil⟩
  exact ok_law (k := 26) Flaw z_tuple z_list z_range C_law_pool C_law_draw C_law_bodies C_law_copied C_law_same C_law_wrong_body C_law_told C_law_due (by decide)
end My
open PySem PySem.W PyProof.Rows
set_option maxHeartbeats 0 in
theorem PySem.Challenge.cw_sharedboard_k03_wrong_books_holds : PySem.Challenge.rw_sharedboard_k03_wrong_books.Holds := by
  w_on; o_law; k_head; (case hw => w_witness2)
  k_fill
  refine L2.walk_of (l := PySem.Challenge.rw_sharedboard_k03_wrong_books) (n := 63) (k := 27) (x := "script") (CX := fun _ => L2.CX0) (sp := fun w => My.spLaw _) rfl (by decide) rfl ⟨rfl, by decide, by decide⟩ (fun w h Y => PySem.W.kIn_of Y) ?F (fun _ _ a ns hl _ hS => ⟨a, ns, rfl, hS, fun _ => rfl⟩) (fun _ _ _ _ _ h => h)
  case F =>
    intro w mg fa h KX G hmg
    refine' My.all_mk KX G hmg ?ais_integer ?lis_integer ?cis_integer ?kis_integer ?ais_between ?lis_between ?cis_between ?kis_between ?ais_bit ?lis_bit ?cis_bit ?kis_bit ?ais_index ?lis_index ?cis_index ?kis_index ?ais_cell_list ?lis_cell_list ?cis_cell_list ?kis_cell_list ?acopied ?lcopied ?ccopied ?kcopied ?ais_row ?lis_row ?cis_row ?kis_row ?ais_block_pair ?lis_block_pair ?cis_block_pair ?kis_block_pair ?ais_sized ?lis_sized ?cis_sized ?kis_sized ?ais_statement ?lis_statement ?cis_statement ?kis_statement ?ablocks_of ?lblocks_of ?cblocks_of ?kblocks_of ?aplaces ?lplaces ?cplaces ?kplaces ?aentries ?lentries ?centries ?kentries ?afits ?lfits ?cfits ?kfits ?afirst_fault ?lfirst_fault ?cfirst_fault ?kfirst_fault ?acheck_bodies ?lcheck_bodies ?ccheck_bodies ?kcheck_bodies ?astatement_at ?lstatement_at ?cstatement_at ?kstatement_at ?aBook ?pgBook ?hdBook ?poBook ?saBook ?mkBook ?kcBook ?nBook_cells ?nBook_bodies ?qLIST_LIMIT ?qPROCEDURE_LIMIT ?qLAST_LEVEL ?qROW_LIMIT ?qMOST_CELLS ?qMOST_PROCEDURES ?qSIZES ?dSIZES ?klSIZES ?loSIZES ?wSIZES0 ?wSIZES1 ?wSIZES2 ?wSIZES3 ?wSIZES4 ?wSIZES5 ?wSIZES6 ?aBook___init__ ?iBook___init__ ?lBook___init__ ?cBook___init__ ?kBook___init__ ?noStop ?aNoCells ?xNoCells ?kNoCells ?bNoCells ?tNoCells ?hdNoCells ?aNoBook ?xNoBook ?rNoBook ?saNoBook ?kNoBook ?bNoBook ?tNoBook ?hdNoBook ?xfNoBook ?nNoBook_procedure ?nNoBook_path ?aNoBook___init__ ?iNoBook___init__ ?lNoBook___init__ ?cNoBook___init__ ?kNoBook___init__ ?tiNoBook ?sNoCellsNoCells ?sNoBookNoCells ?sNoBookNoBook ?a_law_pool ?l_law_pool ?c_law_pool ?k_law_pool ?a_law_draw ?l_law_draw ?c_law_draw ?k_law_draw ?a_law_row ?l_law_row ?c_law_row ?k_law_row ?a_law_command ?l_law_command ?c_law_command ?k_law_command ?a_law_some_cells ?l_law_some_cells ?c_law_some_cells ?k_law_some_cells ?a_law_block ?l_law_block ?c_law_block ?k_law_block ?a_law_statement ?l_law_statement ?c_law_statement ?k_law_statement ?a_law_body ?l_law_body ?c_law_body ?k_law_body ?a_law_bodies ?l_law_bodies ?c_law_bodies ?k_law_bodies ?a_law_copied ?l_law_copied ?c_law_copied ?k_law_copied ?a_law_same ?l_law_same ?c_law_same ?k_law_same ?a_law_blocks ?l_law_blocks ?c_law_blocks ?k_law_blocks ?a_law_placed ?l_law_placed ?c_law_placed ?k_law_placed ?a_law_is_integer ?l_law_is_integer ?c_law_is_integer ?k_law_is_integer ?a_law_is_row ?l_law_is_row ?c_law_is_row ?k_law_is_row ?a_law_is_index ?l_law_is_index ?c_law_is_index ?k_law_is_index ?a_law_are_kept ?l_law_are_kept ?c_law_are_kept ?k_law_are_kept ?a_law_is_statement ?l_law_is_statement ?c_law_is_statement ?k_law_is_statement ?a_law_fault ?l_law_fault ?c_law_fault ?k_law_fault ?a_law_due ?l_law_due ?c_law_due ?k_law_due ?a_law_told ?l_law_told ?c_law_told ?k_law_told ?a_law_wrong_thing ?l_law_wrong_thing ?c_law_wrong_thing ?k_law_wrong_thing ?a_law_with ?l_law_with ?c_law_with ?k_law_with ?a_law_wrong_body ?l_law_wrong_body ?c_law_wrong_body ?k_law_wrong_body ?alaw ?llaw ?claw ?klaw ?y_int ?y_len ?y_list ?y_tuple ?y_range ?y_isinstance ?y_bool ?y_str ?y_dict ?y_all ?y_zip ?y_enumerate ?y_reversed
    (case ais_integer => k_is)
    (case lis_integer => k_is)
    (case cis_integer => k_is)
    (case kis_integer => k_is)
    (case ais_between => k_is)
    (case lis_between => k_is)
    (case cis_between => k_is)
    (case kis_between => k_is)
    (case ais_bit => k_is)
    (case lis_bit => k_is)
    (case cis_bit => k_is)
    (case kis_bit => k_is)
    (case ais_index => k_is)
    (case lis_index => k_is)
    (case cis_index => k_is)
    (case kis_index => k_is)
    (case ais_cell_list => k_is)
    (case lis_cell_list => k_is)
    (case cis_cell_list => k_is)
    (case kis_cell_list => k_is)
    (case acopied => k_is)
    (case lcopied => k_is)
    (case ccopied => k_is)
    (case kcopied => k_is)
    (case ais_row => k_is)
    (case lis_row => k_is)
    (case cis_row => k_is)
    (case kis_row => k_is)
    (case ais_block_pair => k_is)
    (case lis_block_pair => k_is)
    (case cis_block_pair => k_is)
    (case kis_block_pair => k_is)
    (case ais_sized => k_is)
    (case lis_sized => k_is)
    (case cis_sized => k_is)
    (case kis_sized => k_is)
    (case ais_statement => k_is)
    (case lis_statement => k_is)
    (case cis_statement => k_is)
    (case kis_statement => k_is)
    (case ablocks_of => k_is)
    (case lblocks_of => k_is)
    (case cblocks_of => k_is)
    (case kblocks_of => k_is)
    (case aplaces => k_is)
    (case lplaces => k_is)
    (case cplaces => k_is)
    (case kplaces => k_is)
    (case aentries => k_is)
    (case lentries => k_is)
    (case centries => k_is)
    (case kentries => k_is)
    (case afits => k_is)
    (case lfits => k_is)
    (case cfits => k_is)
    (case kfits => k_is)
    (case afirst_fault => k_is)
    (case lfirst_fault => k_is)
    (case cfirst_fault => k_is)
    (case kfirst_fault => k_is)
    (case acheck_bodies => k_is)
    (case lcheck_bodies => k_is)
    (case ccheck_bodies => k_is)
    (case kcheck_bodies => k_is)
    (case astatement_at => k_is)
    (case lstatement_at => k_is)
    (case cstatement_at => k_is)
    (case kstatement_at => k_is)
    (case aBook => k_is)
    (case pgBook => k_is)
    (case hdBook => k_is)
    (case poBook => k_is)
    (case saBook => k_is)
    (case mkBook => k_is)
    (case kcBook => k_is)
    (case nBook_cells => k_is)
    (case nBook_bodies => k_is)
    (case qLIST_LIMIT => k_is)
    (case qPROCEDURE_LIMIT => k_is)
    (case qLAST_LEVEL => k_is)
    (case qROW_LIMIT => k_is)
    (case qMOST_CELLS => k_is)
    (case qMOST_PROCEDURES => k_is)
    (case qSIZES => k_is)
    (case dSIZES => k_is)
    (case klSIZES => k_keys)
    (case loSIZES => first | rfl | decide | k_is)
    (case wSIZES0 => k_is)
    (case wSIZES1 => k_is)
    (case wSIZES2 => k_is)
    (case wSIZES3 => k_is)
    (case wSIZES4 => k_is)
    (case wSIZES5 => k_is)
    (case wSIZES6 => k_is)
    (case aBook___init__ => k_is)
    (case iBook___init__ => k_is)
    (case lBook___init__ => k_is)
    (case cBook___init__ => k_is)
    (case kBook___init__ => k_is)
    (case noStop => k_is)
    (case aNoCells => k_is)
    (case xNoCells => k_exc)
    (case kNoCells => k_is)
    (case bNoCells => k_is)
    (case tNoCells => k_is)
    (case hdNoCells => k_is)
    (case aNoBook => k_is)
    (case xNoBook => k_is)
    (case rNoBook => first | rfl | decide +kernel | k_is)
    (case saNoBook => k_is)
    (case kNoBook => k_is)
    (case bNoBook => k_is)
    (case tNoBook => k_is)
    (case hdNoBook => k_is)
    (case xfNoBook => first | rfl | decide +kernel | k_is)
    (case nNoBook_procedure => k_is)
    (case nNoBook_path => k_is)
    (case aNoBook___init__ => k_is)
    (case iNoBook___init__ => k_is)
    (case lNoBook___init__ => k_is)
    (case cNoBook___init__ => k_is)
    (case kNoBook___init__ => k_is)
    (case tiNoBook => k_is)
    (case sNoCellsNoCells => first | rfl | k_is)
    (case sNoBookNoCells => first | rfl | k_is)
    (case sNoBookNoBook => first | rfl | k_is)
    (case a_law_pool => k_is)
    (case l_law_pool => k_is)
    (case c_law_pool => k_is)
    (case k_law_pool => k_is)
    (case a_law_draw => k_is)
    (case l_law_draw => k_is)
    (case c_law_draw => k_is)
    (case k_law_draw => k_is)
    (case a_law_row => k_is)
    (case l_law_row => k_is)
    (case c_law_row => k_is)
    (case k_law_row => k_is)
    (case a_law_command => k_is)
    (case l_law_command => k_is)
    (case c_law_command => k_is)
    (case k_law_command => k_is)
    (case a_law_some_cells => k_is)
    (case l_law_some_cells => k_is)
    (case c_law_some_cells => k_is)
    (case k_law_some_cells => k_is)
    (case a_law_block => k_is)
    (case l_law_block => k_is)
    (case c_law_block => k_is)
    (case k_law_block => k_is)
    (case a_law_statement => k_is)
    (case l_law_statement => k_is)
    (case c_law_statement => k_is)
    (case k_law_statement => k_is)
    (case a_law_body => k_is)
    (case l_law_body => k_is)
    (case c_law_body => k_is)
    (case k_law_body => k_is)
    (case a_law_bodies => k_is)
    (case l_law_bodies => k_is)
    (case c_law_bodies => k_is)
    (case k_law_bodies => k_is)
    (case a_law_copied => k_is)
    (case l_law_copied => k_is)
    (case c_law_copied => k_is)
    (case k_law_copied => k_is)
    (case a_law_same => k_is)
    (case l_law_same => k_is)
    (case c_law_same => k_is)
    (case k_law_same => k_is)
    (case a_law_blocks => k_is)
    (case l_law_blocks => k_is)
    (case c_law_blocks => k_is)
    (case k_law_blocks => k_is)
    (case a_law_placed => k_is)
    (case l_law_placed => k_is)
    (case c_law_placed => k_is)
    (case k_law_placed => k_is)
    (case a_law_is_integer => k_is)
    (case l_law_is_integer => k_is)
    (case c_law_is_integer => k_is)
    (case k_law_is_integer => k_is)
    (case a_law_is_row => k_is)
    (case l_law_is_row => k_is)
    (case c_law_is_row => k_is)
    (case k_law_is_row => k_is)
    (case a_law_is_index => k_is)
    (case l_law_is_index => k_is)
    (case c_law_is_index => k_is)
    (case k_law_is_index => k_is)
    (case a_law_are_kept => k_is)
    (case l_law_are_kept => k_is)
    (case c_law_are_kept => k_is)
    (case k_law_are_kept => k_is)
    (case a_law_is_statement => k_is)
    (case l_law_is_statement => k_is)
    (case c_law_is_statement => k_is)
    (case k_law_is_statement => k_is)
    (case a_law_fault => k_is)
    (case l_law_fault => k_is)
    (case c_law_fault => k_is)
    (case k_law_fault => k_is)
    (case a_law_due => k_is)
    (case l_law_due => k_is)
    (case c_law_due => k_is)
    (case k_law_due => k_is)
    (case a_law_told => k_is)
    (case l_law_told => k_is)
    (case c_law_told => k_is)
    (case k_law_told => k_is)
    (case a_law_wrong_thing => k_is)
    (case l_law_wrong_thing => k_is)
    (case c_law_wrong_thing => k_is)
    (case k_law_wrong_thing => k_is)
    (case a_law_with => k_is)
    (case l_law_with => k_is)
    (case c_law_with => k_is)
    (case k_law_with => k_is)
    (case a_law_wrong_body => k_is)
    (case l_law_wrong_body => k_is)
    (case c_law_wrong_body => k_is)
    (case k_law_wrong_body => k_is)
    (case alaw => k_is)
    (case llaw => k_is)
    (case claw => k_is)
    (case klaw => k_is)
    (case y_int => k_is)
    (case y_len => k_is)
    (case y_list => k_is)
    (case y_tuple => k_is)
    (case y_range => k_is)
    (case y_isinstance => k_is)
    (case y_bool => k_is)
    (case y_str => k_is)
    (case y_dict => k_is)
    (case y_all => k_is)
    (case y_zip => k_is)
    (case y_enumerate => k_is)
    (case y_reversed => k_is)
