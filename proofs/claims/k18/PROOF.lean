import PyProof.Rows.All
import Wide.All
import OpenK.AllK
import Wide.FinOn
import HandS.ForMost
import HandS.Wide
import HandS.IsInst
import HandS.Codes
import HandS.Evl
import HandS.Walk
import HandS.Zip
import HandS.Star
import HandS.More
import HandS.Flow
import HandS.RevRange
import HandS.OwnEq
import HandS.NamedTupGet
import HandS.Small
import HandS.ExcOwn
import HandS.WordsExc
import HandS.TupAny
import HandS.TryMany
import HandS.Deep
import HandS.ExcIs
import HandS.Rev
import HandS.TupLe
import HandS.ExcInit
import HandS.ExcField
import HandS.FStr
import HandS.Text
import HandS.RaiseMore
import HandS.ExcValue
import KE.KExcIs
import KE.GoesZip
import KE.GoesMore
import PySem.Challenge.RW_sharedboard_k18_texts_written
set_option Elab.async false
set_option linter.all false
set_option maxRecDepth 100000
set_option maxHeartbeats 4000000
namespace My
open PySem PySem.Spec PyProof.Rows L2 Evl
open C8 (Cal pe_c)
def topS (i : Nat) : Stmt := PySem.Challenge.pw_sharedboard_k18_texts_written.main.body.getD i (.Pass ⟨0, 0, 0, 0⟩)
abbrev s_law_pool : Stmt := topS 43
theorem sc_law_pool : FnScope ["script", "seed", "cell"] ["script"] (defScope s_law_pool) := ⟨rfl, rfl, rfl, by decide +kernel, rfl, by decide +kernel, by decide +kernel⟩
abbrev s_law_draw : Stmt := topS 44
theorem sc_law_draw : FnScope ["pool", "many", "number", "cell", "digit"] ["pool", "many"] (defScope s_law_draw) := ⟨rfl, rfl, rfl, by decide +kernel, rfl, by decide +kernel, by decide +kernel⟩
/-! ### the pool of a law's draws -/
/-- all but the object at p is as it was -/
def Oth (p : Addr) (H H' : Hp) : Prop := ∀ a o, a ≠ p → H a = some o → H' a = some o
theorem Oth.refl (p : Addr) (H : Hp) : Oth p H H := fun _ _ _ h => h
theorem Oth.trans {p : Addr} {H H1 H2 : Hp} (a : Oth p H H1) (b : Oth p H1 H2) : Oth p H H2 := fun c o n h => b c o n (a c o n h)
theorem Oth.of {p : Addr} {H H1 : Hp} (a : Ex H H1) : Oth p H H1 := fun c o _ h => a c o h
theorem Oth.upd {p : Addr} {H : Hp} {o : HO} : Oth p H (upd H p o) := fun c u n h => by rw [upd_ne n]; exact h
structure PoolAt (H : Hp) (p q : Addr) (i b t s : Int) (cs : List Int) : Prop where
  hp : H p = some (.lst [.ref q, .int i, .int b, .int t, .int s])
  hq : H q = some (.lst (cs.map V.int))
  short : cs.length ≤ 63
  i0 : 0 ≤ i
  b0 : 0 ≤ b
def Pool (H : Hp) (p q : Addr) : Prop := ∃ i b t s cs, PoolAt H p q i b t s cs
theorem PoolAt.ne {H : Hp} {p q : Addr} {i b t s : Int} {cs : List Int} (x : PoolAt H p q i b t s cs) : q ≠ p := ne_of x.hq x.hp fun e => by
  have e1 := HO.lst.inj e
  cases cs with
  | nil => cases e1
  | cons c r => cases e1
theorem PoolAt.ex {H H' : Hp} {p q : Addr} {i b t s : Int} {cs : List Int} (x : PoolAt H p q i b t s cs) (e : Ex H H') : PoolAt H' p q i b t s cs :=
  ⟨e _ _ x.hp, e _ _ x.hq, x.short, x.i0, x.b0⟩
theorem Pool.ex {H H' : Hp} {p q : Addr} (x : Pool H p q) (e : Ex H H') : Pool H' p q := by
  obtain ⟨i, b, t, s, cs, x⟩ := x
  exact ⟨i, b, t, s, cs, x.ex e⟩
theorem Pool.ne {H : Hp} {p q : Addr} (x : Pool H p q) : q ≠ p := by
  obtain ⟨i, b, t, s, cs, x⟩ := x
  exact x.ne
/-- a list of ints is not the pool -/
theorem Pool.neI {H : Hp} {p q a : Addr} {ns : List Int} (x : Pool H p q) (h : H a = some (.lst (ns.map V.int))) : a ≠ p := by
  obtain ⟨i, b, t, s, cs, x⟩ := x
  refine ne_of h x.hp fun e => ?_
  have e1 := HO.lst.inj e
  cases ns with
  | nil => cases e1
  | cons c r => cases e1
/-- an object that is neither may change -/
theorem Pool.upd {H : Hp} {p q a : Addr} {o : HO} (x : Pool H p q) (h1 : a ≠ p) (h2 : a ≠ q) : Pool (upd H a o) p q := by
  obtain ⟨i, b, t, s, cs, x⟩ := x
  exact ⟨i, b, t, s, cs, by rw [upd_ne h1.symm]; exact x.hp, by rw [upd_ne h2.symm]; exact x.hq, x.short, x.i0, x.b0⟩
theorem Pool.isP {H : Hp} {p q : Addr} (x : Pool H p q) : ∃ o, H p = some o := by
  obtain ⟨i, b, t, s, cs, x⟩ := x
  exact ⟨_, x.hp⟩
theorem Pool.isQ {H : Hp} {p q : Addr} (x : Pool H p q) : ∃ o, H q = some o := by
  obtain ⟨i, b, t, s, cs, x⟩ := x
  exact ⟨_, x.hq⟩
theorem PoolAt.put {H H' : Hp} {p q : Addr} {i b t s i' b' t' s' : Int} {cs : List Int} (x : PoolAt H p q i b t s cs) (e : Ex H H') (hi : 0 ≤ i') (hb : 0 ≤ b') :
    PoolAt (upd H' p (.lst [.ref q, .int i', .int b', .int t', .int s'])) p q i' b' t' s' cs :=
  ⟨upd_same, by rw [upd_ne x.ne]; exact e _ _ x.hq, x.short, hi, hb⟩
def spPool (K : PySem.W.Frag) : Sp := fun vs H Q _ => ∃ (a : Addr) (ns : List Int), vs = [.ref a] ∧ SqL K H a (ns.map V.int) ∧ ∀ p q H', H p = none → H q = none → Ex H H' → Pool H' p q → Q (.ref p) H'
def spDraw : Sp := fun vs H Q _ => ∃ (p q : Addr) (m : Int), vs = [.ref p, .int m] ∧ 0 < m ∧ m.natAbs < 2 ^ 200 ∧ Pool H p q ∧ ∀ r H', 0 ≤ r → r < m → Oth p H H' → Pool H' p q → Q (.int r) H'
theorem cut63 (xs : List V) : cutV xs none (some 63) = xs.take 63 := by
  unfold cutV
  rw [HT.sIx_none, show HT.sIx xs.length xs.length (some 63) = min 63 xs.length from HT.sIx_nat xs.length xs.length 63]
  show (xs.drop 0).take (min 63 xs.length - 0) = _
  rw [List.drop_zero, Nat.sub_zero, List.take_eq_take_iff]
  omega
section
variable {P : Program} {w : World} {K : PySem.W.Frag} {mg : Str → Option Value} {base : Heap}
theorem ok_pool {f : Addr} {fd : FuncData} {k : Nat} (F : Fun K "_law_pool" "_law_pool" s_law_pool f fd) (z_int : mg "int" = none) (z_list : mg "list" = none) : FnOk P w K mg base CX0 (k + 1) f fd ["script"] (spPool K) := by
  have sc := sc_law_pool
  refine F.ok sc (fun vs H Q E h => ?_) (fun cdv A outer s H vs Q E hr h => ?_)
  · obtain ⟨a, ns, rfl, _⟩ := h
    rfl
  · obtain ⟨a, ns, rfl, hS, q⟩ := h
    refine ⟨_, (pss_cons (ps_set (i := 1) sc.nd rfl (by first | exact Or.inl rfl | exact Or.inr rfl) pe_int)
      (pss_cons (ps_for PassesOwn.never rfl (pi_list (pe_slice sl_list (pv 0) po_none (po_some pe_int))) (pg_name (i := 2) sc.nd rfl (by first | exact Or.inl rfl | exact Or.inr rfl))
      (pss_one (ps_set (i := 1) sc.nd rfl (by first | exact Or.inl rfl | exact Or.inr rfl) (pe_op op_modN (pe_callTy call_int1 (by rfl) z_int (by decide +kernel) (pa_cons (pe_op op_add (pe_op op_add (pe_op op_mul (pv 1) pe_int) (pv 2)) pe_int) pa_nil)) pe_int))))
      (pss_one (ps_ret (pe_lst (pa_cons (pe_callTy call_list_of (by rfl) z_list (by decide +kernel) (pa_cons (pe_slice sl_list (pv 0) po_none (po_some pe_int)) pa_nil)) (pa_cons pe_int (pa_cons pe_int (pa_cons pe_int (pa_cons (pv 1) pa_nil)))))))))), ?_⟩
    -- for cell in script[:63]
    refine ⟨.ref a, rfl, 63, rfl, a, ns.map V.int, rfl, hS, fun c nc => ?_⟩
    rw [cut63, ← List.map_take]
    refine ⟨c, rfl, ⟨_, .inl (.inl upd_same)⟩, for_list (xs := (ns.take 63).map V.int)
      (fun i σ H' => ∃ (n : Int) (y : Option V), σ = [some (.ref a), some (.int n), y] ∧ Ex H H' ∧ H' c = some (.lst ((ns.take 63).map V.int))) ⟨17, none, rfl, Ex.new nc, upd_same⟩ (fun i σ H' hi p => ?_) (fun i x σ H' hi p => ?_) (fun σ H' p => ?_)⟩
    · obtain ⟨n, y, rfl, e, hc⟩ := p
      exact .inl (.inl hc)
    · obtain ⟨n, y, rfl, e, hc⟩ := p
      rw [List.getElem?_map, Option.map_eq_some_iff] at hi
      obtain ⟨z, _, rfl⟩ := hi
      refine ⟨.int n, rfl, n, 43, rfl, rfl, .inr ⟨by decide, by decide⟩, .int z, rfl, n * 43, z, rfl, rfl, n * 43 + z, 3, rfl, rfl, .inl ⟨_, rfl, _, 2147483629, rfl, rfl, show (2147483629 : Int) ≠ 0 by decide, ?_⟩⟩
      exact ⟨_, some (.int z), rfl, e, hc⟩
    · obtain ⟨n, y, rfl, e, hc⟩ := p
      refine ⟨.ref a, rfl, 63, rfl, a, ns.map V.int, rfl, ex_l e hS, fun c2 nc2 => ?_⟩
      rw [cut63, ← List.map_take]
      refine ⟨c2, _, rfl, .inl (.inl (.inl upd_same)), fun l nl => ?_⟩
      refine ⟨.int n, rfl, Nat.le_of_ble_eq_true rfl, fun p np => ?_⟩
      have e2 := (e.trans (Ex.new nc2)).trans (Ex.new (o := .lst ((ns.take 63).map V.int)) nl)
      have e3 := e2.trans (Ex.new (o := .lst [.ref l, .int 0, .int 0, .int 0, .int n]) np)
      refine q p l _ (fresh_back e2 np) (fresh_back (e.trans (Ex.new nc2)) nl) e3 ⟨0, 0, 0, n, ns.take 63, upd_same, ?_, ?_, by decide, by decide⟩
      · rw [upd_ne (ne_of_none upd_same np)]
        exact upd_same
      · rw [List.length_take]; omega

theorem ev_ix0 {σ : L2.St} {H : Hp} {p : Addr} {xs : List V} {j : Nat} {v : V} (hs : σ[0]? = some (some (.ref p))) (h : H p = some (.lst xs)) (hx : xs[j]? = some v) : Ev (tOp (rIxL K) (tVar 0) (tC (.int (j : Int)))) σ H v :=
  ev_op (ev_var hs) ev_c (rv_ixL (sq_of h) (atI_nat hx))
theorem ev_int1 {σ : L2.St} {H : Hp} {te : TE} {n : Int} (h : Ev te σ H (.int n)) : Ev (tCB (fun xs H Q => (∃ i, xs = [.int i] ∧ Q (.int i) H) ∨ ∃ k, xs = [.bl k] ∧ Q (.int (if k then 1 else 0)) H) (tCons te tNil)) σ H (.int n) :=
  ev_cb (ea_cons h ea_nil) fun H1 _ _ q => .inl ⟨n, rfl, q H1 (Ex.refl H1)⟩
theorem fmod_in {a m : Int} (h : 0 < m) : 0 ≤ a.fmod m ∧ a.fmod m < m := by
  rw [Int.fmod_eq_emod_of_nonneg a (by omega)]
  exact ⟨Int.emod_nonneg a (by omega), Int.emod_lt_of_pos a h⟩
theorem ok_draw {f : Addr} {fd : FuncData} {k : Nat} (F : Fun K "_law_draw" "_law_draw" s_law_draw f fd) (z_int : mg "int" = none) (z_len : mg "len" = none) : FnOk P w K mg base CX0 (k + 1) f fd ["pool", "many"] spDraw := by
  have sc := sc_law_draw
  refine F.ok sc (fun vs H Q E h => ?_) (fun cdv A outer s H vs Q E hr h => ?_)
  · obtain ⟨p, q0, m, rfl, _⟩ := h
    rfl
  · obtain ⟨p, q0, m, rfl, hm, hb, ⟨i, b, t, s, cs, x⟩, q⟩ := h
    refine ⟨_, (pss_cons (ps_asg (pe_op op_add (pe_ix ix_list (pv 0) pe_int (fun _ _ => rfl)) pe_int) (pg_sub (pv 0) pe_int set_list))
      (Evl.pss_cut (ps_if (PW.pt (pw_and (pt_cmpR op_eq (pe_ix ix_list (pv 0) pe_int (fun _ _ => rfl)) pe_int (nomark _)) (pw_and1 (pt_cmpR op_lt (pe_ix ix_list (pv 0) pe_int (fun _ _ => rfl)) (pe_callB call_len_seq (by rfl) z_len (by decide +kernel) (pa_cons (pe_ix ix_list (pv 0) pe_int (fun _ _ => rfl)) pa_nil)) (nomark _)))))
      (pss_cons (ps_set (i := 3) sc.nd rfl (by first | exact Or.inl rfl | exact Or.inr rfl) (pe_ix ix_list (pe_ix ix_list (pv 0) pe_int (fun _ _ => rfl)) (pe_ix ix_list (pv 0) pe_int (fun _ _ => rfl)) (fun _ _ => rfl)))
      (pss_cons (ps_asg (pe_op op_add (pe_ix ix_list (pv 0) pe_int (fun _ _ => rfl)) pe_int) (pg_sub (pv 0) pe_int set_list))
      (pss_one (ps_if (pt_cmpR op_ge (pv 3) (pe_op op_pow pe_int pe_int) (nomark _))
      (pss_one (ps_asg (pv 3) (pg_sub (pv 0) pe_int set_list)))
      (pss_one (ps_asg (pe_op op_modN (pe_callTy call_int1 (by rfl) z_int (by decide +kernel) (pa_cons (pe_op op_add (pe_op op_add (pe_op op_mul (pe_ix ix_list (pv 0) pe_int (fun _ _ => rfl)) pe_int) (pv 3)) pe_int) pa_nil)) pe_int) (pg_sub (pv 0) pe_int set_list)))))))
      pss_nil)
      (pss_cons (ps_if (pt_cmpR op_gt (pe_ix ix_list (pv 0) pe_int (fun _ _ => rfl)) pe_int (nomark _))
      (pss_cons (ps_set (i := 4) sc.nd rfl (by first | exact Or.inl rfl | exact Or.inr rfl) (pe_op op_modN (pe_callTy call_int1 (by rfl) z_int (by decide +kernel) (pa_cons (pe_ix ix_list (pv 0) pe_int (fun _ _ => rfl)) pa_nil)) (pv 1)))
      (pss_cons (ps_asg (pe_op op_fdivW (pe_ix ix_list (pv 0) pe_int (fun _ _ => rfl)) (pv 1)) (pg_sub (pv 0) pe_int set_list))
      (pss_one (ps_ret (pv 4)))))
      pss_nil)
      (pss_cons (ps_set (i := 2) sc.nd rfl (by first | exact Or.inl rfl | exact Or.inr rfl) (pe_op op_modN (pe_callTy call_int1 (by rfl) z_int (by decide +kernel) (pa_cons (pe_op op_add (pe_op op_add (pe_op op_mul (pe_ix ix_list (pv 0) pe_int (fun _ _ => rfl)) pe_int) (pe_op op_mul (pe_ix ix_list (pv 0) pe_int (fun _ _ => rfl)) pe_int)) pe_int) pa_nil)) pe_int))
      (pss_cons (ps_set (i := 2) sc.nd rfl (by first | exact Or.inl rfl | exact Or.inr rfl) (pe_op op_modN (pe_callTy call_int1 (by rfl) z_int (by decide +kernel) (pa_cons (pe_op op_mul (pv 2) (pe_op op_add (pe_op op_fdivN (pv 2) pe_int) pe_int)) pa_nil)) pe_int))
      (pss_cons (ps_set (i := 2) sc.nd rfl (by first | exact Or.inl rfl | exact Or.inr rfl) (pe_op op_modN (pe_callTy call_int1 (by rfl) z_int (by decide +kernel) (pa_cons (pe_op op_mul (pv 2) (pe_op op_add (pe_op op_fdivN (pv 2) pe_int) pe_int)) pa_nil)) pe_int))
      (pss_one (ps_ret (pe_op op_modN (pe_callTy call_int1 (by rfl) z_int (by decide +kernel) (pa_cons (pe_op op_fdivN (pv 2) pe_int) pa_nil)) (pv 1)))))))))), ?_⟩
    have hm0 : m ≠ 0 := by omega
    -- pool[3] = pool[3] + 1
    refine q_setL (j := 3) x.hp (ev_op (ev_ix0 (j := 3) rfl x.hp rfl) ev_c rv_I0) (ev_var rfl) ev_c (by show _ < 5; decide) fun H1 e1 => ?_
    have x2 : PoolAt (upd H1 p (.lst [.ref q0, .int i, .int b, .int (t + 1), .int s])) p q0 i b (t + 1) s cs := x.put e1 x.i0 x.b0
    have o2 : Oth p H (upd H1 p (.lst [.ref q0, .int i, .int b, .int (t + 1), .int s])) := (Oth.of e1).trans Oth.upd
    -- if pool[2] == 0 and ..
    refine ⟨fun σ' H' => ∃ (c : Option V) (i' b' t' s' : Int), σ' = [some (.ref p), some (.int m), none, c, none] ∧ Oth p H H' ∧ PoolAt H' p q0 i' b' t' s' cs, ?_, ?_⟩
    · refine s_when (et_and (et_test (ev_op (ev_ix0 (j := 2) rfl x2.hp rfl) ev_c (rv_eq rfl))) fun hb => et_test (ev_op (ev_ix0 (j := 1) rfl x2.hp rfl) (ev_len (ev_ix0 (j := 0) rfl x2.hp rfl) (sq_of x2.hq)) rv_I0)) (fun hb H3 e3 => ?_) (fun hb H3 e3 => ⟨none, i, b, t + 1, s, rfl, o2.trans (.of e3), x2.ex e3⟩)
      have x3 := x2.ex e3
      have o3 : Oth p H H3 := o2.trans (.of e3)
      have hi : i < ((cs.map V.int).length : Int) := of_decide_eq_true (Bool.and_eq_true _ _ ▸ hb).2
      rw [List.length_map] at hi
      have hi2 : i.toNat < cs.length := by have := x.i0; omega
      refine q_asg (v := .int cs[i.toNat]) (ev_op (ev_ix0 (j := 0) rfl x3.hp rfl) (ev_ix0 (j := 1) rfl x3.hp rfl) (rv_ixL (sq_of x3.hq) (at_of (j := i.toNat) (by have := x.i0; omega) (by rw [List.getElem?_map, List.getElem?_eq_getElem hi2]; rfl)))) fun H4 e4 => ?_
      have x4 := x3.ex e4
      refine q_setL (j := 1) x4.hp (ev_op (ev_ix0 (j := 1) rfl x4.hp rfl) ev_c rv_I0) (ev_var rfl) ev_c (by show _ < 5; decide) fun H5 e5 => ?_
      have x5 : PoolAt (upd H5 p (.lst [.ref q0, .int (i + 1), .int b, .int (t + 1), .int s])) p q0 (i + 1) b (t + 1) s cs := x4.put e5 (by have := x.i0; omega) x.b0
      have o5 : Oth p H (upd H5 p (.lst [.ref q0, .int (i + 1), .int b, .int (t + 1), .int s])) := ((o3.trans (.of e4)).trans (.of e5)).trans Oth.upd
      refine s_if (et_test (ev_op (ev_var rfl) (ev_op ev_c ev_c (rv_I ⟨by decide, by decide, by decide⟩)) rv_I0)) (fun hc H6 e6 => ?_) (fun hc H6 e6 => ?_)
      · have x6 := x5.ex e6
        have hz : (0 : Int) ≤ cs[i.toNat] := Int.le_trans (by decide) (of_decide_eq_true hc)
        refine s_setL (j := 2) x6.hp (ev_var rfl) (ev_var rfl) ev_c (by show _ < 5; decide) fun H7 e7 => ?_
        exact ⟨_, i + 1, cs[i.toNat], t + 1, s, rfl, ((o5.trans (.of e6)).trans (.of e7)).trans Oth.upd, x6.put e7 x6.i0 hz⟩
      · have x6 := x5.ex e6
        refine s_setL (j := 4) x6.hp (ev_op (ev_int1 (ev_op (ev_op (ev_op (ev_ix0 (j := 4) rfl x6.hp rfl) ev_c (rv_I (.inr ⟨by decide, by decide⟩))) (ev_var rfl) rv_I0) ev_c rv_I0)) ev_c (rv_I (by decide +revert))) (ev_var rfl) ev_c (by show _ < 5; decide) fun H7 e7 => ?_
        exact ⟨_, i + 1, b, t + 1, _, rfl, ((o5.trans (.of e6)).trans (.of e7)).trans Oth.upd, x6.put e7 x6.i0 x6.b0⟩
    · rintro σ' H' ⟨c, i, b, t, s, rfl, o, x⟩
      refine q_when (et_test (ev_op (ev_ix0 (j := 2) rfl x.hp rfl) ev_c rv_I0)) (fun hc H2 e2 => ?_) (fun hc H2 e2 => ?_)
      · have x2 := x.ex e2
        refine q_asg (ev_op (ev_int1 (ev_ix0 (j := 2) rfl x2.hp rfl)) (ev_var rfl) (rv_I hm0)) fun H3 e3 => ?_
        have x3 := x2.ex e3
        refine q_setL (j := 2) x3.hp (ev_op (ev_ix0 (j := 2) rfl x3.hp rfl) (ev_var rfl) (rv_I (wide_div hm hb (by decide) (by decide)))) (ev_var rfl) ev_c (by show _ < 5; decide) fun H4 e4 => ?_
        refine s_ret (ev_var rfl) fun H5 e5 => ?_
        have x4 : PoolAt (upd H4 p (.lst [.ref q0, .int i, .int (b / m), .int t, .int s])) p q0 i (b / m) t s cs := x3.put e4 x3.i0 (Int.ediv_nonneg x3.b0 (by omega))
        exact q _ _ (fmod_in hm).1 (fmod_in hm).2 ((((o.trans (.of e2)).trans (.of e3)).trans (.of e4)).trans (Oth.upd.trans (.of e5))) ⟨_, _, _, _, _, x4.ex e5⟩
      · have x2 := x.ex e2
        refine q_asg (ev_op (ev_int1 (ev_op (ev_op (ev_op (ev_ix0 (j := 4) rfl x2.hp rfl) ev_c (rv_I (.inr ⟨by decide, by decide⟩))) (ev_op (ev_ix0 (j := 3) rfl x2.hp rfl) ev_c (rv_I (.inr ⟨by decide, by decide⟩))) rv_I0) ev_c rv_I0)) ev_c (rv_I (by decide +revert))) fun H3 e3 => ?_
        have n1 := @fmod_in (s * 69621 + t * 130363 + 12289) 2147483647 (by decide)
        generalize (s * 69621 + t * 130363 + 12289).fmod 2147483647 = n at n1 ⊢
        refine q_asg (ev_op (ev_int1 (ev_op (ev_var rfl) (ev_op (ev_op (ev_var rfl) ev_c (rv_I ⟨by decide, by decide⟩)) ev_c rv_I0) (rv_I (.inl ⟨by omega, by omega⟩)))) ev_c (rv_I (by decide +revert))) fun H4 e4 => ?_
        have n2 := @fmod_in (n * (n.fdiv 1013 + 48271)) 2147483647 (by decide)
        generalize (n * (n.fdiv 1013 + 48271)).fmod 2147483647 = n' at n2 ⊢
        refine q_asg (ev_op (ev_int1 (ev_op (ev_var rfl) (ev_op (ev_op (ev_var rfl) ev_c (rv_I ⟨by decide, by decide⟩)) ev_c rv_I0) (rv_I (.inl ⟨by omega, by omega⟩)))) ev_c (rv_I (by decide +revert))) fun H5 e5 => ?_
        refine s_ret (ev_op (ev_int1 (ev_op (ev_var rfl) ev_c (rv_I ⟨by decide, by decide⟩))) (ev_var rfl) (rv_I hm0)) fun H6 e6 => ?_
        have e := (((e2.trans e3).trans e4).trans e5).trans e6
        exact q _ _ (fmod_in hm).1 (fmod_in hm).2 (o.trans (.of e)) ⟨_, _, _, _, _, x.ex e⟩
end
/-! ### data: what may stand in lists and tuples -/
mutual
/-- equal, kind for kind (actual, due) -/
def sm : PyData → PyData → Bool
  | .none, .none => true
  | .bool a, .bool b => decide (a = b)
  | .int a, .int b => decide (a = b)
  | .str a, .str b => decide (a = b)
  | .list xs, .list ys => smAll xs ys
  | .tuple xs, .tuple ys => smAll xs ys
  | _, _ => false
def smAll : List PyData → List PyData → Bool
  | [], [] => true
  | x :: xs, y :: ys => sm x y && smAll xs ys
  | _, _ => false
end
mutual
/-- at most n levels, no list longer than 10000, no dict -/
def fit : PyData → Nat → Bool
  | .list xs, n => match n with
    | 0 => false
    | m + 1 => decide (xs.length ≤ 10000) && fitAll xs m
  | .tuple xs, n => match n with
    | 0 => false
    | m + 1 => decide (xs.length ≤ 10000) && fitAll xs m
  | .dict _, _ => false
  | _, _ => true
def fitAll : List PyData → Nat → Bool
  | [], _ => true
  | x :: xs, n => fit x n && fitAll xs n
end
mutual
theorem sm_refl : ∀ (d : PyData) (n : Nat), fit d n = true → sm d d = true
  | .none, _, _ => by simp [sm]
  | .bool _, _, _ => by simp [sm]
  | .int _, _, _ => by simp [sm]
  | .str _, _, _ => by simp [sm]
  | .list xs, 0, h => by simp [fit] at h
  | .list xs, n + 1, h => by
    rw [fit, Bool.and_eq_true] at h
    rw [sm]
    exact smAll_refl xs n h.2
  | .tuple xs, 0, h => by simp [fit] at h
  | .tuple xs, n + 1, h => by
    rw [fit, Bool.and_eq_true] at h
    rw [sm]
    exact smAll_refl xs n h.2
  | .dict _, _, h => by simp [fit] at h
theorem smAll_refl : ∀ (xs : List PyData) (n : Nat), fitAll xs n = true → smAll xs xs = true
  | [], _, _ => by simp [smAll]
  | x :: xs, n, h => by
    rw [fitAll, Bool.and_eq_true] at h
    rw [smAll, sm_refl x n h.1, smAll_refl xs n h.2]
    rfl
end
mutual
theorem sm_eq : ∀ (d e : PyData), sm d e = true → d = e
  | .none, e, h => by cases e <;> simp_all [sm]
  | .bool _, e, h => by cases e <;> simp_all [sm]
  | .int _, e, h => by cases e <;> simp_all [sm]
  | .str _, e, h => by cases e <;> simp_all [sm]
  | .list xs, e, h => by
    cases e with
    | list ys => rw [sm] at h; rw [smAll_eq xs ys h]
    | _ => simp [sm] at h
  | .tuple xs, e, h => by
    cases e with
    | tuple ys => rw [sm] at h; rw [smAll_eq xs ys h]
    | _ => simp [sm] at h
  | .dict _, e, h => by cases e <;> simp [sm] at h
theorem smAll_eq : ∀ (xs ys : List PyData), smAll xs ys = true → xs = ys
  | [], ys, h => by cases ys <;> simp_all [smAll]
  | x :: xs, ys, h => by
    cases ys with
    | nil => simp [smAll] at h
    | cons y ys =>
      rw [smAll, Bool.and_eq_true] at h
      rw [sm_eq x y h.1, smAll_eq xs ys h.2]
end
theorem smAll_len : ∀ {xs ys : List PyData}, smAll xs ys = true → xs.length = ys.length := fun h => by rw [smAll_eq _ _ h]
theorem fitAll_mem : ∀ {xs : List PyData} {n : Nat} {x : PyData}, fitAll xs n = true → x ∈ xs → fit x n = true
  | y :: r, n, x, h, m => by
    rw [fitAll, Bool.and_eq_true] at h
    rcases List.mem_cons.mp m with rfl | m
    · exact h.1
    · exact fitAll_mem h.2 m
/-- by places -/
theorem smAll_at : ∀ {xs ys : List PyData}, xs.length = ys.length → (smAll xs ys = true ↔ ∀ i, i < ys.length → sm (xs.getD i .none) (ys.getD i .none) = true)
  | [], [], _ => by simp [smAll]
  | x :: xs, y :: ys, h => by
    have ih := smAll_at (xs := xs) (ys := ys) (by simpa using h)
    rw [smAll, Bool.and_eq_true, ih]
    constructor
    · rintro ⟨h1, h2⟩ i hi
      cases i with
      | zero => exact h1
      | succ i => exact h2 i (by simpa using hi)
    · intro h
      exact ⟨h 0 (by simp), fun i hi => h (i + 1) (by simpa using hi)⟩
theorem given_zero {n : Nat} {f : Nat → Bool} {v : Nat → V} : (given n f v).length = 0 ↔ ∀ i, i < n → f i = false := by
  unfold given
  rw [List.length_map, List.length_eq_zero_iff, List.filter_eq_nil_iff]
  constructor
  · intro h i hi
    have := h i (List.mem_range.mpr hi)
    simpa using this
  · intro h i hi
    rw [h i (List.mem_range.mp hi)]
    decide
theorem smAll_given {xs ys : List PyData} (h : xs.length = ys.length) (v : Nat → V) : decide (((given ys.length (fun i => !sm (xs.getD i .none) (ys.getD i .none)) v).length : Int) = 0) = smAll xs ys := by
  have h1 := given_zero (n := ys.length) (f := fun i => !sm (xs.getD i .none) (ys.getD i .none)) (v := v)
  have h2 := smAll_at h
  cases e : smAll xs ys with
  | true =>
    rw [decide_eq_true_eq]
    have := h1.mpr fun i hi => by
      show (!sm (xs.getD i .none) (ys.getD i .none)) = false
      rw [h2.mp e i hi]; rfl
    omega
  | false =>
    rw [decide_eq_false_iff_not]
    intro z
    have hz : (given ys.length (fun i => !sm (xs.getD i .none) (ys.getD i .none)) v).length = 0 := by omega
    have := h2.mpr fun i hi => by
      have := h1.mp hz i hi
      simpa using this
    rw [e] at this
    cases this
section
variable {K : PySem.W.Frag} {H H' : Hp}
mutual
theorem dp_ex (e : Ex H H') : ∀ (d : PyData) (v : V), Dp K H v d → Dp K H' v d
  | .none, _, h => by cases h; exact .non
  | .bool _, _, h => by cases h; exact .bl _
  | .int _, _, h => by cases h; exact .int _
  | .str _, _, h => by cases h; exact .str _
  | .list ds, _, h => by
    cases h with
    | lst s a => exact .lst (ex_l e s) (dpa_ex e ds _ a)
  | .tuple ds, _, h => by
    cases h with
    | tup s a => exact .tup (ex_t e s) (dpa_ex e ds _ a)
  | .dict _, _, h => by cases h
theorem dpa_ex (e : Ex H H') : ∀ (ds : List PyData) (vs : List V), DpAll K H vs ds → DpAll K H' vs ds
  | [], _, h => by cases h; exact .nil
  | d :: ds, _, h => by
    cases h with
    | cons a b => exact .cons (dp_ex e d _ a) (dpa_ex e ds _ b)
end
theorem dpa_len : ∀ {vs : List V} {ds : List PyData}, DpAll K H vs ds → vs.length = ds.length
  | _, _, .nil => rfl
  | _, _, .cons _ b => by rw [List.length_cons, List.length_cons, dpa_len b]
theorem dpa_at : ∀ {vs : List V} {ds : List PyData} {i : Nat}, DpAll K H vs ds → i < ds.length → ∃ v, vs[i]? = some v ∧ Dp K H v (ds.getD i .none)
  | _, _, i, .nil, h => by simp at h
  | _, _, 0, .cons a _, _ => ⟨_, rfl, a⟩
  | _, _, i + 1, .cons _ b, h => by
    obtain ⟨v, h1, h2⟩ := dpa_at (i := i) b (by simpa using h)
    exact ⟨v, h1, h2⟩
theorem dpa_ints : ∀ ns : List Int, DpAll K H (ns.map V.int) (ns.map PyData.int)
  | [] => .nil
  | n :: r => .cons (.int n) (dpa_ints r)
theorem fit_ints : ∀ (ns : List Int) (n : Nat), fitAll (ns.map PyData.int) n = true
  | [], n => by simp [fitAll]
  | z :: r, n => by
    rw [List.map_cons, fitAll, fit_ints r n]
    simp [fit]
def tyn : PyData → String
  | .none => "NoneType"
  | .bool _ => "bool"
  | .int _ => "int"
  | .str _ => "str"
  | .list _ => "list"
  | .tuple _ => "tuple"
  | .dict _ => "dict"
theorem dp_ty {v : V} {d : PyData} (h : Dp K H v d) : TyX K H v (.type (tyn d)) := by
  cases h with
  | non => exact .base .non
  | bl b => exact .base (.bl b)
  | int i => exact .base (.int i)
  | str x => exact .base (.str x)
  | lst s _ =>
    rcases s with (s | ⟨o, s⟩) | ⟨o, its, n, l, c, _⟩
    · exact .base (.lst s)
    · exact .base (.frz s)
    · exact .kList l c
  | tup s _ =>
    rcases s with (s | ⟨o, s⟩) | ⟨o, its, n, l, c, _⟩
    · exact .base (.tup s)
    · exact .fTuple s
    · exact .kTuple l c
/-- isinstance(d, c), c one of bool, int, str, list, tuple -/
def isaS (t c : String) : Bool := (kitB t c).getD false
def isa (d : PyData) (c : String) : Bool := isaS (tyn d) c
theorem kit_all : ∀ t ∈ ["NoneType", "bool", "int", "str", "list", "tuple", "dict"], kitB t "bool" = some (isaS t "bool") ∧ kitB t "int" = some (isaS t "int") ∧ kitB t "str" = some (isaS t "str") ∧ kitB t "list" = some (isaS t "list") ∧ kitB t "tuple" = some (isaS t "tuple") := by
  decide +kernel
theorem tyn_mem (d : PyData) : tyn d ∈ ["NoneType", "bool", "int", "str", "list", "tuple", "dict"] := by
  cases d <;> simp [tyn]
theorem kitB_isa (d : PyData) : kitB (tyn d) "bool" = some (isa d "bool") ∧ kitB (tyn d) "int" = some (isa d "int") ∧ kitB (tyn d) "str" = some (isa d "str") ∧ kitB (tyn d) "list" = some (isa d "list") ∧ kitB (tyn d) "tuple" = some (isa d "tuple") :=
  kit_all _ (tyn_mem d)
theorem isa_bool : ∀ d : PyData, isa d "bool" = (match d with | .bool _ => true | _ => false)
  | .none => (by decide +kernel : isaS "NoneType" "bool" = false)
  | .bool _ => (by decide +kernel : isaS "bool" "bool" = true)
  | .int _ => (by decide +kernel : isaS "int" "bool" = false)
  | .str _ => (by decide +kernel : isaS "str" "bool" = false)
  | .list _ => (by decide +kernel : isaS "list" "bool" = false)
  | .tuple _ => (by decide +kernel : isaS "tuple" "bool" = false)
  | .dict _ => (by decide +kernel : isaS "dict" "bool" = false)
theorem isa_int : ∀ d : PyData, isa d "int" = (match d with | .int _ => true | .bool _ => true | _ => false)
  | .none => (by decide +kernel : isaS "NoneType" "int" = false)
  | .bool _ => (by decide +kernel : isaS "bool" "int" = true)
  | .int _ => (by decide +kernel : isaS "int" "int" = true)
  | .str _ => (by decide +kernel : isaS "str" "int" = false)
  | .list _ => (by decide +kernel : isaS "list" "int" = false)
  | .tuple _ => (by decide +kernel : isaS "tuple" "int" = false)
  | .dict _ => (by decide +kernel : isaS "dict" "int" = false)
theorem isa_str : ∀ d : PyData, isa d "str" = (match d with | .str _ => true | _ => false)
  | .none => (by decide +kernel : isaS "NoneType" "str" = false)
  | .bool _ => (by decide +kernel : isaS "bool" "str" = false)
  | .int _ => (by decide +kernel : isaS "int" "str" = false)
  | .str _ => (by decide +kernel : isaS "str" "str" = true)
  | .list _ => (by decide +kernel : isaS "list" "str" = false)
  | .tuple _ => (by decide +kernel : isaS "tuple" "str" = false)
  | .dict _ => (by decide +kernel : isaS "dict" "str" = false)
theorem isa_list : ∀ d : PyData, isa d "list" = (match d with | .list _ => true | _ => false)
  | .none => (by decide +kernel : isaS "NoneType" "list" = false)
  | .bool _ => (by decide +kernel : isaS "bool" "list" = false)
  | .int _ => (by decide +kernel : isaS "int" "list" = false)
  | .str _ => (by decide +kernel : isaS "str" "list" = false)
  | .list _ => (by decide +kernel : isaS "list" "list" = true)
  | .tuple _ => (by decide +kernel : isaS "tuple" "list" = false)
  | .dict _ => (by decide +kernel : isaS "dict" "list" = false)
theorem isa_tuple : ∀ d : PyData, isa d "tuple" = (match d with | .tuple _ => true | _ => false)
  | .none => (by decide +kernel : isaS "NoneType" "tuple" = false)
  | .bool _ => (by decide +kernel : isaS "bool" "tuple" = false)
  | .int _ => (by decide +kernel : isaS "int" "tuple" = false)
  | .str _ => (by decide +kernel : isaS "str" "tuple" = false)
  | .list _ => (by decide +kernel : isaS "list" "tuple" = false)
  | .tuple _ => (by decide +kernel : isaS "tuple" "tuple" = true)
  | .dict _ => (by decide +kernel : isaS "dict" "tuple" = false)
theorem ev_isi {σ : L2.St} {te : TE} {x : V} {d : PyData} {c : String} {b : Bool} (hd : Dp K H x d) (h : Ev te σ H x) (hk : kitB (tyn d) c = some b) : Ev (tCB (rIsi K) (tCons te (tCons (tC (.ty c)) tNil))) σ H (.bl b) :=
  ev_cb (ea_cons h (ea_cons ev_c ea_nil)) fun H1 e Q q => ⟨x, .ty c, _, _, b, rfl, .ty c, dp_ty (dp_ex e d x hd), kit_ty hk, q H1 (Ex.refl H1)⟩
/-- isinstance(x, (list, tuple)) -/
theorem ev_isiLT {σ : L2.St} {te : TE} {x : V} {d : PyData} (hd : Dp K H x d) (h : Ev te σ H x) : Ev (tCB (rIsiT K) (tCons te (tCons (tTup (tCons (tC (.ty "list")) (tCons (tC (.ty "tuple")) tNil))) tNil))) σ H (.bl (isa d "list" || isa d "tuple")) := fun H1 e Q q =>
  h H1 e _ fun H2 e2 => ⟨by decide, fun p hp => ⟨x, p, _, _, _, _, rfl, upd_same, .cons (.ty _) (.cons (.ty _) .nil), dp_ty (dp_ex ((e.trans e2).trans (Ex.new hp)) d x hd),
    kitAny_cons (kit_ty (kitB_isa d).2.2.2.1) (fun hb => kitAny_cons (r := isa d "list" || isa d "tuple") (kit_ty (kitB_isa d).2.2.2.2) (fun hc => by rw [hb, hc]; exact kitAny_nil) (fun hc => by rw [hc, Bool.or_true])) (fun hb => by rw [hb, Bool.true_or]),
    q _ (e2.trans (Ex.new hp))⟩⟩
theorem ev_isN {σ : L2.St} {te : TE} {x : V} (h : Ev te σ H x) : Ev (tOp (fun x y H Q => y = .non ∧ Q (.bl (decide (x = .non))) H) te (tC .non)) σ H (.bl (decide (x = .non))) :=
  ev_op h ev_c (rv_val fun _ _ _ q => ⟨rfl, q⟩)
/-- a list or a tuple -/
def Sq (K : PySem.W.Frag) (H : Hp) (a : Addr) (xs : List V) : Prop := SqL K H a xs ∨ SqT K H a xs
theorem sq_ex {a : Addr} {xs : List V} (e : Ex H H') (h : Sq K H a xs) : Sq K H' a xs := h.imp (ex_l e) (ex_t e)
theorem ev_lenS {σ : L2.St} {ta : TE} {p : Addr} {xs : List V} (ha : Ev ta σ H (.ref p)) (h : Sq K H p xs) : Ev (tCB (rLenS K) (tCons ta tNil)) σ H (.int (xs.length : Int)) := fun H1 e Q q =>
  ha H1 e _ fun H2 e2 => ⟨p, xs, rfl, sq_ex (e.trans e2) h, q H2 e2⟩
theorem rv_ixS {p : Addr} {xs : List V} {i : Int} {v : V} (h : Sq K H p xs) (ha : atI xs i = some v) : RV (rIx K) (.ref p) (.int i) H v := fun H1 e _ q => by
  rcases h with h | h
  · exact .inl ⟨p, xs, i, v, rfl, rfl, ex_l e h, ha, q H1 (Ex.refl H1)⟩
  · exact .inr (.inl ⟨p, xs, i, v, rfl, rfl, ex_t e h, ha, q H1 (Ex.refl H1)⟩)
end
abbrev s_law_same : Stmt := topS 52
theorem sc_law_same : FnScope ["actual", "due", "k"] ["actual", "due"] (defScope s_law_same) := ⟨rfl, rfl, rfl, by decide +kernel, rfl, by decide +kernel, by decide +kernel⟩
section
variable {P : Program} {w : World} {K : PySem.W.Frag} {mg : Str → Option Value} {base : Heap}
def spSame (K : PySem.W.Frag) (n : Nat) : Sp := fun vs H Q _ => ∃ (x y : V) (d e : PyData) (m : Nat), vs = [x, y] ∧ n = m + 1 ∧ Dp K H x d ∧ Dp K H y e ∧ fit d m = true ∧ fit e m = true ∧ ∀ H', Ex H H' → Q (.bl (sm d e)) H'
theorem scal_bool {H : Hp} {x y : V} {d e : PyData} (hx : Dp K H x d) (hy : Dp K H y e) (h1 : isa e "bool" = true) (h2 : isa d "bool" = true) : scal x y = true := by
  rw [isa_bool] at h1 h2
  cases hx <;> simp at h2
  cases hy <;> simp at h1
  rfl
theorem scal_int {H : Hp} {x y : V} {d e : PyData} (hx : Dp K H x d) (hy : Dp K H y e) (c1 : isa e "bool" = false) (c2 : isa d "bool" = false) (h1 : isa e "int" = true) (h2 : isa d "int" = true) : scal x y = true := by
  rw [isa_bool] at c1 c2
  rw [isa_int] at h1 h2
  cases hx <;> simp at h2 c2
  cases hy <;> simp at h1 c1
  rfl
theorem scal_str {H : Hp} {x y : V} {d e : PyData} (hx : Dp K H x d) (hy : Dp K H y e) (h1 : isa e "str" = true) (h2 : isa d "str" = true) : scal x y = true := by
  rw [isa_str] at h1 h2
  cases hx <;> simp at h2
  cases hy <;> simp at h1
  rfl
theorem ans_non {H : Hp} {x y : V} {d e : PyData} (hx : Dp K H x d) (hy : Dp K H y e) (h : y = .non) : decide (x = V.non) = sm d e := by
  subst h
  cases hy
  cases hx <;> simp [sm]
theorem ans_bool {H : Hp} {x y : V} {d e : PyData} (hx : Dp K H x d) (hy : Dp K H y e) (hn : decide (y = V.non) = false) (h : (isa e "bool" || isa d "bool") = true) : (isa e "bool" && (isa d "bool" && decide (x = y))) = sm d e := by
  rw [isa_bool, isa_bool] at h ⊢
  cases hy <;> simp at hn <;> cases hx <;> simp [sm] at h ⊢
theorem ans_int {H : Hp} {x y : V} {d e : PyData} (hx : Dp K H x d) (hy : Dp K H y e) (c1 : isa e "bool" = false) (c2 : isa d "bool" = false) (h : isa e "int" = true) : (isa d "int" && decide (x = y)) = sm d e := by
  rw [isa_bool] at c1 c2
  rw [isa_int] at h ⊢
  cases hy <;> simp at h c1 <;> cases hx <;> simp [sm] at c2 ⊢
theorem ans_str {H : Hp} {x y : V} {d e : PyData} (hx : Dp K H x d) (hy : Dp K H y e) (h : isa e "str" = true) : (isa d "str" && decide (x = y)) = sm d e := by
  rw [isa_str] at h ⊢
  cases hy <;> simp at h <;> cases hx <;> simp [sm]
theorem ans_kind {H : Hp} {x y : V} {d e : PyData} (hx : Dp K H x d) (hy : Dp K H y e) (hn : decide (y = V.non) = false) (c1 : isa e "bool" = false) (hi : isa e "int" = false) (hs : isa e "str" = false)
    (h : ((!decide (V.bl (isa e "list") = V.bl (isa d "list"))) || !(isa d "list" || isa d "tuple")) = true) : false = sm d e := by
  rw [isa_list, isa_list, isa_tuple] at h
  rw [isa_int] at hi
  rw [isa_str] at hs
  rw [isa_bool] at c1
  cases hy <;> simp at hn hi hs c1 <;> cases hx <;> simp [sm] at h ⊢
theorem fit_list {xs : List PyData} {n : Nat} (h : fit (.list xs) n = true) : ∃ m, n = m + 1 ∧ xs.length ≤ 10000 ∧ fitAll xs m = true := by
  cases n with
  | zero => simp [fit] at h
  | succ m =>
    rw [fit, Bool.and_eq_true] at h
    exact ⟨m, rfl, of_decide_eq_true h.1, h.2⟩
theorem fit_tuple {xs : List PyData} {n : Nat} (h : fit (.tuple xs) n = true) : ∃ m, n = m + 1 ∧ xs.length ≤ 10000 ∧ fitAll xs m = true := by
  cases n with
  | zero => simp [fit] at h
  | succ m =>
    rw [fit, Bool.and_eq_true] at h
    exact ⟨m, rfl, of_decide_eq_true h.1, h.2⟩
theorem fit_two {xs ys : List PyData} {n : Nat} (h1 : ∃ m, n = m + 1 ∧ xs.length ≤ 10000 ∧ fitAll xs m = true) (h2 : ∃ m, n = m + 1 ∧ ys.length ≤ 10000 ∧ fitAll ys m = true) :
    ∃ m, n = m + 1 ∧ xs.length ≤ 10000 ∧ ys.length ≤ 10000 ∧ fitAll xs m = true ∧ fitAll ys m = true := by
  obtain ⟨m, rfl, a, b⟩ := h1
  obtain ⟨m', e, c, d⟩ := h2
  have : m' = m := by omega
  subst this
  exact ⟨_, rfl, a, c, b, d⟩
/-- both sides hold items -/
theorem both_items {H : Hp} {x y : V} {d e : PyData} (hx : Dp K H x d) (hy : Dp K H y e) (h1 : isa d "list" = isa e "list") (h2 : (isa d "list" || isa d "tuple") = true) (hn : decide (y = .non) = false) (h4 : isa e "int" = false) (h5 : isa e "str" = false) :
    ∃ a xs ds b ys es, x = .ref a ∧ y = .ref b ∧ Sq K H a xs ∧ Sq K H b ys ∧ DpAll K H xs ds ∧ DpAll K H ys es ∧ sm d e = smAll ds es ∧ ∀ n, fit d n = true → fit e n = true → ∃ m, n = m + 1 ∧ ds.length ≤ 10000 ∧ es.length ≤ 10000 ∧ fitAll ds m = true ∧ fitAll es m = true := by
  rw [isa_list, isa_list] at h1
  rw [isa_list, isa_tuple] at h2
  rw [isa_int] at h4
  rw [isa_str] at h5
  cases hx with
  | lst s a =>
    cases hy with
    | lst s2 a2 => exact ⟨_, _, _, _, _, _, rfl, rfl, .inl s, .inl s2, a, a2, by rw [sm], fun n f g => fit_two (fit_list f) (fit_list g)⟩
    | non => cases hn
    | _ => cases h1
  | tup s a =>
    cases hy with
    | tup s2 a2 => exact ⟨_, _, _, _, _, _, rfl, rfl, .inr s, .inr s2, a, a2, by rw [sm], fun n f g => fit_two (fit_tuple f) (fit_tuple g)⟩
    | lst _ _ => cases h1
    | non => cases hn
    | bl => cases h4
    | int => cases h4
    | str => cases h5
  | _ => cases h2
theorem same_step {f : Addr} {fd : FuncData} {n : Nat} (F : Fun K "_law_same" "_law_same" s_law_same f fd) (z_len : mg "len" = none) (z_isinstance : mg "isinstance" = none) (z_bool : mg "bool" = none) (z_int : mg "int" = none) (z_str : mg "str" = none)
    (z_list : mg "list" = none) (z_tuple : mg "tuple" = none) (z_range : mg "range" = none) (C_law_same : Cal P w K mg base n "_law_same" (spSame K n) []) : FnOk P w K mg base CX0 (n + 1) f fd ["actual", "due"] (spSame K (n + 1)) := by
  have sc := sc_law_same
  refine F.ok sc (fun vs H Q E h => ?_) (fun cdv A outer s H vs Q E hr h => ?_)
  · obtain ⟨x, y, d, e, m, rfl, _⟩ := h
    rfl
  · obtain ⟨x, y, d, e, n', rfl, en, hx, hy, fx, fy, q⟩ := h
    obtain rfl : n' = n := by omega
    refine ⟨_, (pss_cons (ps_if (pt_cmpR op_isN (pv 1) pe_non (nomark _))
      (pss_one (ps_ret (pe_cmpR op_isN (pv 0) pe_non (nomark _))))
      pss_nil)
      (pss_cons (ps_if (PW.pt (pw_or (pt_val (pe_callB call_isi (by rfl) z_isinstance (by decide +kernel) (pa_cons (pv 1) (pa_cons (pe_bltn (v := .ty "bool") (by rfl) z_bool (by decide +kernel) rfl) pa_nil)))) (pw_or1 (pt_val (pe_callB call_isi (by rfl) z_isinstance (by decide +kernel) (pa_cons (pv 0) (pa_cons (pe_bltn (v := .ty "bool") (by rfl) z_bool (by decide +kernel) rfl) pa_nil)))))))
      (pss_one (ps_ret (pe_and (pe_callB call_isi (by rfl) z_isinstance (by decide +kernel) (pa_cons (pv 1) (pa_cons (pe_bltn (v := .ty "bool") (by rfl) z_bool (by decide +kernel) rfl) pa_nil))) (pe_and (pe_callB call_isi (by rfl) z_isinstance (by decide +kernel) (pa_cons (pv 0) (pa_cons (pe_bltn (v := .ty "bool") (by rfl) z_bool (by decide +kernel) rfl) pa_nil))) (pe_one (pe_cmpR op_eq (pv 0) (pv 1) (nomark _)))))))
      pss_nil)
      (pss_cons (ps_if (pt_val (pe_callB call_isi (by rfl) z_isinstance (by decide +kernel) (pa_cons (pv 1) (pa_cons (pe_bltn (v := .ty "int") (by rfl) z_int (by decide +kernel) rfl) pa_nil))))
      (pss_one (ps_ret (pe_and (pe_callB call_isi (by rfl) z_isinstance (by decide +kernel) (pa_cons (pv 0) (pa_cons (pe_bltn (v := .ty "int") (by rfl) z_int (by decide +kernel) rfl) pa_nil))) (pe_one (pe_cmpR op_eq (pv 0) (pv 1) (nomark _))))))
      pss_nil)
      (pss_cons (ps_if (pt_val (pe_callB call_isi (by rfl) z_isinstance (by decide +kernel) (pa_cons (pv 1) (pa_cons (pe_bltn (v := .ty "str") (by rfl) z_str (by decide +kernel) rfl) pa_nil))))
      (pss_one (ps_ret (pe_and (pe_callB call_isi (by rfl) z_isinstance (by decide +kernel) (pa_cons (pv 0) (pa_cons (pe_bltn (v := .ty "str") (by rfl) z_str (by decide +kernel) rfl) pa_nil))) (pe_one (pe_cmpR op_eq (pv 0) (pv 1) (nomark _))))))
      pss_nil)
      (pss_cons (ps_if (PW.pt (pw_or (pt_cmpR op_ne (pe_callB call_isi (by rfl) z_isinstance (by decide +kernel) (pa_cons (pv 1) (pa_cons (pe_bltn (v := .ty "list") (by rfl) z_list (by decide +kernel) rfl) pa_nil))) (pe_callB call_isi (by rfl) z_isinstance (by decide +kernel) (pa_cons (pv 0) (pa_cons (pe_bltn (v := .ty "list") (by rfl) z_list (by decide +kernel) rfl) pa_nil))) (nomark _)) (pw_or1 (pt_not (pt_val (pe_callB call_isiT (by rfl) z_isinstance (by decide +kernel) (pa_cons (pv 0) (pa_cons (pe_tup (pa_cons (pe_bltn (v := .ty "list") (by rfl) z_list (by decide +kernel) rfl) (pa_cons (pe_bltn (v := .ty "tuple") (by rfl) z_tuple (by decide +kernel) rfl) pa_nil))) pa_nil))))))))
      (pss_one (ps_ret pe_bl))
      pss_nil)
      (pss_cons (ps_if (pt_cmpR op_ne (pe_callB call_len_seq (by rfl) z_len (by decide +kernel) (pa_cons (pv 0) pa_nil)) (pe_callB call_len_seq (by rfl) z_len (by decide +kernel) (pa_cons (pv 1) pa_nil)) (nomark _))
      (pss_one (ps_ret pe_bl))
      pss_nil)
      (pss_one (ps_ret (pe_cmpR op_eq (pe_callB call_len_seq (by rfl) z_len (by decide +kernel) (pa_cons (pe_lc (own := [("k", 2)]) (by rfl) sc.nd (pi_range1 (by rfl) z_range (pa_cons (pe_callB call_len_seq (by rfl) z_len (by decide +kernel) (pa_cons (pv 1) pa_nil)) pa_nil)) (blkOk_by (own := [("k", 2)]) (N := ["actual", "due", "k"]) (sc := defScope s_law_same) (by decide +kernel)) (fun _ _ _ _ _ => (pg_name (i := 2) sc.nd rfl (by first | exact Or.inl rfl | exact Or.inr rfl))) (fun _ _ _ _ _ => (pts_one (pt_not (pt_val (pe_c C_law_same hr (by omega) (by rfl) (pa_cons (pe_ix (ix_seq : IxR _ (rIx K)) (pv 0) (pv 2) (fun _ _ => rfl)) (pa_cons (pe_ix (ix_seq : IxR _ (rIx K)) (pv 1) (pv 2) (fun _ _ => rfl)) pa_nil))))))) (fun _ _ _ _ _ => (pv 2))) pa_nil)) pe_int (nomark _)))))))))), ?_⟩
    have kd := kitB_isa d
    have ke := kitB_isa e
    have vx : ∀ H1, Ex H H1 → Dp K H1 x d := fun H1 a => dp_ex a d x hx
    have vy : ∀ H1, Ex H H1 → Dp K H1 y e := fun H1 a => dp_ex a e y hy
    -- if due is None
    refine q_when (et_test (ev_isN (ev_var rfl))) (fun hb H1 e1 => ?_) (fun hb H1 e1 => ?_)
    · refine s_ret (ev_isN (ev_var rfl)) fun H2 e2 => ?_
      have z := ans_non hx hy (of_decide_eq_true hb)
      rw [z]
      exact q H2 (e1.trans e2)
    -- if isinstance(due, bool) or isinstance(actual, bool)
    refine q_when (et_or (et_B (ev_isi (vy _ e1) (ev_var rfl) ke.1)) fun _ => et_B (ev_isi (vx _ e1) (ev_var rfl) kd.1)) (fun hc H2 e2 => ?_) (fun hc H2 e2 => ?_)
    · have e12 := e1.trans e2
      refine s_ret (ev_andV (ev_isi (vy _ e12) (ev_var rfl) ke.1) fun h1 => ev_andV (b := decide (x = y)) (ev_isi (vx _ e12) (ev_var rfl) kd.1) fun h2 => ev_op (ev_var rfl) (ev_var rfl) (rv_eq ?_)) fun H3 e3 => ?_
      · exact scal_bool hx hy h1 h2
      · have z := ans_bool hx hy hb hc
        rw [z]
        exact q H3 (e12.trans e3)
    have e12 := e1.trans e2
    obtain ⟨c1, c2⟩ := Bool.or_eq_false_iff.mp hc
    -- if isinstance(due, int)
    refine q_when (et_B (ev_isi (vy _ e12) (ev_var rfl) ke.2.1)) (fun hc H3 e3 => ?_) (fun hci H3 e3 => ?_)
    · have e13 := e12.trans e3
      refine s_ret (ev_andV (b := decide (x = y)) (ev_isi (vx _ e13) (ev_var rfl) kd.2.1) fun h2 => ev_op (ev_var rfl) (ev_var rfl) (rv_eq ?_)) fun H4 e4 => ?_
      · exact scal_int hx hy c1 c2 hc h2
      · have z := ans_int hx hy c1 c2 hc
        rw [z]
        exact q H4 (e13.trans e4)
    have e13 := e12.trans e3
    -- if isinstance(due, str)
    refine q_when (et_B (ev_isi (vy _ e13) (ev_var rfl) ke.2.2.1)) (fun hc H4 e4 => ?_) (fun hcs H4 e4 => ?_)
    · have e14 := e13.trans e4
      refine s_ret (ev_andV (b := decide (x = y)) (ev_isi (vx _ e14) (ev_var rfl) kd.2.2.1) fun h2 => ev_op (ev_var rfl) (ev_var rfl) (rv_eq ?_)) fun H5 e5 => ?_
      · exact scal_str hx hy hc h2
      · have z := ans_str hx hy hc
        rw [z]
        exact q H5 (e14.trans e5)
    have e14 := e13.trans e4
    -- if isinstance(due, list) != isinstance(actual, list) or not isinstance(actual, (list, tuple))
    refine q_when (et_or (et_test (ev_op (ev_isi (vy _ e14) (ev_var rfl) ke.2.2.2.1) (ev_isi (vx _ e14) (ev_var rfl) kd.2.2.2.1) (rv_ne rfl))) fun _ => et_not (et_B (ev_isiLT (vx _ e14) (ev_var rfl)))) (fun hc H5 e5 => ?_) (fun hc H5 e5 => ?_)
    · refine s_ret ev_c fun H6 e6 => ?_
      have z := ans_kind hx hy hb c1 hci hcs hc
      rw [z]
      exact q H6 ((e14.trans e5).trans e6)
    have e15 := e14.trans e5
    obtain ⟨c3, c4⟩ := Bool.or_eq_false_iff.mp hc
    have c5 : isa d "list" = isa e "list" := by
      have := of_decide_eq_true (by simpa using c3 : decide (V.bl (isa e "list") = V.bl (isa d "list")) = true)
      exact (V.bl.inj this).symm
    obtain ⟨a, xs, ds, b, ys, es, rfl, rfl, sx, sy, ax, ay, es0, ft⟩ := both_items (vx _ e15) (vy _ e15) c5 (by rw [Bool.not_eq_false'] at c4; exact c4) hb hci hcs
    obtain ⟨m, em, lx, ly, gx, gy⟩ := ft n' fx fy
    have l1 := dpa_len ax
    have l2 := dpa_len ay
    -- if len(actual) != len(due)
    refine q_when (et_test (ev_op (ev_lenS (ev_var rfl) sx) (ev_lenS (ev_var rfl) sy) (rv_ne rfl))) (fun hc H6 e6 => ?_) (fun hc H6 e6 => ?_)
    · refine s_ret ev_c fun H7 e7 => ?_
      have z : false = sm d e := by
        rw [es0]
        cases e9 : smAll ds es with
        | false => rfl
        | true =>
          have := smAll_len e9
          have h9 : (xs.length : Int) = (ys.length : Int) := by omega
          rw [h9] at hc
          simp at hc
      rw [z]
      exact q H7 ((e15.trans e6).trans e7)
    have h9 : ds.length = es.length := by
      have : V.int (xs.length : Int) = V.int (ys.length : Int) := of_decide_eq_true (by simpa using hc)
      have := V.int.inj this
      omega
    have e16 := e15.trans e6
    have sx := sq_ex e6 sx
    have sy := sq_ex e6 sy
    have ax := dpa_ex e6 ds _ ax
    have ay := dpa_ex e6 es _ ay
    refine s_ret (ev_op (ev_lenN (el_lcR1 (fun i => !sm (ds.getD i .none) (es.getD i .none)) (fun i => .int (i : Int)) (ea_cons (ev_lenS (ev_var rfl) sy) ea_nil) ⟨by omega, by omega⟩ (fun _ => rfl) (fun i H7 e7 hi => ?_) (fun i H7 e7 hi _ => ev_var rfl))) ev_c (rv_eq rfl)) fun H7 e7 => ?_
    · have hi2 : i < es.length := by omega
      obtain ⟨v1, g1, p1⟩ := dpa_at ax (show i < ds.length by omega)
      obtain ⟨v2, g2, p2⟩ := dpa_at ay hi2
      refine et_not (et_B (ev_call (vs := [v1, v2]) (ea_cons (ev_op (ev_var rfl) (ev_var rfl) (rv_ixS (sq_ex e7 sx) (atI_nat g1))) (ea_cons (ev_op (ev_var rfl) (ev_var rfl) (rv_ixS (sq_ex e7 sy) (atI_nat g2))) ea_nil)) fun H8 e8 Q8 q8 E8 => ?_))
      refine ⟨v1, v2, _, _, m, rfl, em, dp_ex (e7.trans e8) _ _ p1, dp_ex (e7.trans e8) _ _ p2, fitAll_mem gx ?_, fitAll_mem gy ?_, q8⟩
      · rw [List.getD_eq_getElem?_getD, List.getElem?_eq_getElem (show i < ds.length by omega)]
        exact List.getElem_mem _
      · rw [List.getD_eq_getElem?_getD, List.getElem?_eq_getElem hi2]
        exact List.getElem_mem _
    · have z : decide (V.int ((given (ys.length : Int).toNat (fun i => !sm (ds.getD i .none) (es.getD i .none)) (fun i => .int (i : Int))).length : Int) = V.int 0) = sm d e := by
        rw [es0, ← smAll_given h9 (fun i => .int (i : Int))]
        have h10 : (ys.length : Int).toNat = es.length := by omega
        rw [h10]
        have : ∀ k : Int, decide (V.int k = V.int 0) = decide (k = 0) := fun k => by
          rw [dec_int]
          exact (Bool.eq_iff_iff.mpr (by simp))
        exact this _
      rw [z]
      exact q H7 (e16.trans e7)
theorem ok_same {f : Addr} {fd : FuncData} (F : Fun K "_law_same" "_law_same" s_law_same f fd) (g : mg "_law_same" = some (.ref f)) (b : Binds K fd ["actual", "due"] []) (z_len : mg "len" = none) (z_isinstance : mg "isinstance" = none) (z_bool : mg "bool" = none) (z_int : mg "int" = none) (z_str : mg "str" = none)
    (z_list : mg "list" = none) (z_tuple : mg "tuple" = none) (z_range : mg "range" = none) : ∀ n, FnOk P w K mg base CX0 n f fd ["actual", "due"] (spSame K n)
  | 0 => ⟨fun _ _ _ _ ⟨_, _, _, _, _, _, h, _⟩ => (nomatch h), fun _ _ _ _ _ _ _ _ _ _ _ _ _ ⟨_, _, _, _, _, _, h, _⟩ => (nomatch h)⟩
  | n + 1 => same_step F z_len z_isinstance z_bool z_int z_str z_list z_tuple z_range ⟨f, fd, _, [], ok_same F g b z_len z_isinstance z_bool z_int z_str z_list z_tuple z_range n, g, F.kp, b, .nil⟩
end
/-! ### more of what evaluates to what -/
section
variable {K : PySem.W.Frag} {σ : L2.St} {H H' : Hp} {ta te tl : TE} {x y z v : V}
theorem el_is {xs ys : List V} (h : EvL te σ H xs) (e : xs = ys) : EvL te σ H ys := e ▸ h
theorem given_all (n : Nat) (v : Nat → V) : given n (fun _ => true) v = (List.range n).map v := by
  unfold given
  rw [List.filter_eq_self.mpr fun _ _ => rfl]
theorem et_yes : EvT tYes σ H true := fun H1 _ _ q => q H1 (Ex.refl H1)
/-- [e for k in range(n)] -/
theorem el_rng {tr : TA} {j : Nat} {vs : List Nat} {n : Nat} (v : Nat → V) (h : EvA tr σ H [.int (n : Int)]) (hn : n ≤ 40000) (hw : ∀ x, wipe ((wipe σ vs).set j (some x)) vs = wipe σ vs)
    (he : ∀ (i : Nat) H1, Ex H H1 → i < n → Ev te ((wipe σ vs).set j (some (.int (i : Int)))) H1 (v i)) : EvL (tLc (iRng1 tr) (gName j) tYes te vs) σ H ((List.range n).map v) :=
  el_is (el_lcR1 (fun _ => true) v h ⟨by omega, by omega⟩ hw (fun _ _ _ _ => et_yes) (fun i H1 e hi _ => he i H1 e (by omega))) (by rw [given_all, Int.toNat_natCast])
theorem ev_sumN {ns : List Int} (h : EvL te σ H (ns.map V.int)) : Ev (tCB (rSum K) (tCons te tNil)) σ H (.int ns.sum) := fun H1 e Q q =>
  h H1 e _ fun p H2 _ e2 h2 => ⟨p, ns, rfl, sq_of h2, q H2 e2⟩
def Cw2 (H : Hp) (n : Nat) (v : Nat → Nat → V) (D : Addr) (t : Nat) (H' : Hp) : Prop := H D = none ∧ Ex H H' ∧ H' D = some (.lst ((List.range t).map fun m => v (m / n) (m % n)))
/-- [e for i in range(w) for j in range(n)] -/
theorem el_rng2 {tr tr1 : TA} {j j1 : Nat} {vs vs1 : List Nat} {w n : Nat} (v : Nat → Nat → V) (h : EvA tr σ H [.int (w : Int)]) (hw0 : w ≤ 100) (hn0 : n ≤ 100)
    (hw : ∀ x, wipe ((wipe σ vs).set j (some x)) vs = wipe σ vs) (h1 : ∀ (i : Nat) H1, Ex H H1 → i < w → EvA tr1 ((wipe σ vs).set j (some (.int (i : Int)))) H1 [.int (n : Int)])
    (hw1 : ∀ x y, wipe ((wipe ((wipe σ vs).set j (some x)) vs1).set j1 (some y)) vs1 = wipe ((wipe σ vs).set j (some x)) vs1)
    (he : ∀ (i k : Nat) H1, Ex H H1 → i < w → k < n → Ev te ((wipe ((wipe σ vs).set j (some (.int (i : Int)))) vs1).set j1 (some (.int (k : Int)))) H1 (v i k)) :
    EvL (tLc2 (iRng1 tr) (gName j) tYes (iRng1 tr1) (gName j1) tYes te vs vs1) σ H ((List.range (w * n)).map fun m => v (m / n) (m % n)) := fun H0 e Q q => h H0 e _ fun H1 e1 => ⟨(w : Int), rfl, by omega, by omega, fun D hD => by
  have e01 := e.trans e1
  refine ⟨fun i m H' => m = w - i ∧ i ≤ w ∧ Cw2 H1 n v D (i * n) H', ⟨w, by omega, by omega, hD, Ex.new hD, ?_⟩, fun i m H' hW => ?_⟩
  · rw [upd_same, Nat.zero_mul]; rfl
  · obtain ⟨rfl, hi, p⟩ := hW
    by_cases hlt : i < w
    · refine .inr ⟨show i < (w : Int).toNat by omega, fun H2 => Cw2 H1 n v D ((i + 1) * n) H2, fun H2 p2 => ⟨w - (i + 1), by omega, rfl, hlt, p2⟩, fun x H2 y => ?_⟩
      obtain ⟨rfl, rfl⟩ := y
      have e0 : (0 : Int) + (i : Int) = (i : Int) := Int.zero_add _
      show wipe ((wipe σ vs).set j (some (.int ((0 : Int) + (i : Int))))) vs = wipe σ vs ∧ _
      refine ⟨hw _, ?_⟩
      rw [e0]
      refine h1 i _ (e01.trans p.2.1) hlt _ (Ex.refl _) _ fun H3 e3 => ⟨(n : Int), rfl, by omega, by omega, fun k m H4 => m = n - k ∧ k ≤ n ∧ Cw2 H1 n v D (i * n + k) H4, ⟨n, by omega, by omega, p.1, p.2.1.trans e3, e3 _ _ p.2.2⟩, fun k m H4 hW => ?_⟩
      obtain ⟨rfl, hk, p4⟩ := hW
      by_cases hlk : k < n
      · refine .inr ⟨show k < (n : Int).toNat by omega, fun H5 => Cw2 H1 n v D (i * n + (k + 1)) H5, fun H5 p5 => ⟨n - (k + 1), by omega, rfl, hlk, p5⟩, fun x H5 y => ?_⟩
        obtain ⟨rfl, rfl⟩ := y
        have e0 : (0 : Int) + (k : Int) = (k : Int) := Int.zero_add _
        show wipe ((wipe ((wipe σ vs).set j (some (.int (i : Int)))) vs1).set j1 (some (.int ((0 : Int) + (k : Int))))) vs1 = wipe ((wipe σ vs).set j (some (.int (i : Int)))) vs1 ∧ _
        refine ⟨hw1 _ _, ?_⟩
        rw [e0]
        show te _ _ _
        have hh : i * n + k < 10000 := by
          have : i * n ≤ 99 * 100 := Nat.mul_le_mul (by omega) hn0
          omega
        refine he i k _ (e01.trans p4.2.1) hlt hlk _ (Ex.refl _) _ fun H6 e6 => ⟨_, e6 _ _ p4.2.2, ?_, p4.1, Ex.mut (p4.2.1.trans e6) p4.1, ?_⟩
        · rw [List.length_map, List.length_range]
          exact sz_lt (by omega)
        · rw [upd_same, ← Nat.add_assoc, List.range_succ, List.map_append]
          have h1 : (i * n + k) / n = i := by rw [Nat.mul_comm, Nat.mul_add_div (by omega), Nat.div_eq_of_lt hlk, Nat.add_zero]
          have h2 : (i * n + k) % n = k := by rw [Nat.mul_comm, Nat.mul_add_mod, Nat.mod_eq_of_lt hlk]
          rw [List.map_singleton, h1, h2]
      · have : k = n := by omega
        subst this
        refine .inl ⟨show (k : Int).toNat ≤ k by omega, ?_⟩
        rw [Nat.succ_mul]
        exact p4
    · have : i = w := by omega
      subst this
      exact .inl ⟨show (i : Int).toNat ≤ i by omega, q D H' (fresh_back e1 p.1) (e1.trans p.2.1) p.2.2⟩⟩
/-- a comprehension over a list that is made on the way -/
theorem lc_new {xs : List V} {g : TG} {tt : TT} {vs : List Nat} {Q : VK} (h : EvL tl σ H xs)
    (k : ∀ L H1, H L = none → Ex H H1 → H1 L = some (.lst xs) → ∀ D, H1 D = none → ∃ W : Nat → Nat → Hp → Prop, (∃ m, W 0 m (upd H1 D (.lst []))) ∧ ∀ i m H, W i m H →
      ((Itl K L).stop i H ∧ Q (.ref D) H) ∨ ((Itl K L).go i H ∧ ∃ Nx : Hp → Prop, (∀ H', Nx H' → ∃ m', m' < m ∧ W (i + 1) m' H') ∧ ∀ x H', (Itl K L).yld i H x H' → g x (wipe σ vs) H' fun σ2 H2 => wipe σ2 vs = wipe σ vs ∧ tt σ2 H2 fun b H3 =>
        if b = true then te σ2 H3 fun y H4 => ∃ acc, H4 D = some (.lst acc) ∧ acc.length < sizeLine ∧ Nx (upd H4 D (.lst (acc ++ [y]))) else Nx H3)) : tLc (iList K tl) g tt te vs σ H Q :=
  h H (Ex.refl H) _ fun L H1 nL e1 hL => ⟨L, rfl, ⟨xs, sq_of hL⟩, k L H1 nL e1 hL⟩
theorem s_retR {D : Ends} (h : te σ H D.rt) : tRet te D σ H := h
end
/-! ### what evaluates to something that is so -/
section
variable {K : PySem.W.Frag} {σ : L2.St} {H H' : Hp} {ta te tx ty : TE} {v : V} {Φ Ψ : V → Hp → Prop} {E : XK}
def EvP (te : TE) (σ : L2.St) (H : Hp) (Φ : V → Hp → Prop) : Prop := ∀ H1, Ex H H1 → ∀ Q : VK, (∀ v H2, Ex H1 H2 → Φ v H2 → Q v H2) → te σ H1 Q
theorem EvP.mono (h : EvP te σ H Φ) (e : Ex H H') : EvP te σ H' Φ := fun H1 a Q q => h H1 (e.trans a) Q q
theorem EvP.imp (h : EvP te σ H Φ) (k : ∀ v H2, Ex H H2 → Φ v H2 → Ψ v H2) : EvP te σ H Ψ := fun H1 a Q q => h H1 a Q fun v H2 e f => q v H2 e (k v H2 (a.trans e) f)
theorem ep_ev (h : Ev te σ H v) (k : ∀ H2, Ex H H2 → Φ v H2) : EvP te σ H Φ := fun H1 a Q q => h H1 a Q fun H2 e => q v H2 e (k H2 (a.trans e))
theorem ep_el {xs : List V} (h : EvL te σ H xs) (k : ∀ p H2, Ex H H2 → H2 p = some (.lst xs) → Φ (.ref p) H2) : EvP te σ H Φ := fun H1 a Q q => h H1 a Q fun p H2 _ e hp => q _ H2 e (k p H2 (a.trans e) hp)
theorem ep_call1 {sp : Sp} (h : EvP tx σ H Φ) (k : ∀ v H2, Ex H H2 → Φ v H2 → ∀ Q : VK, (∀ w H3, Ex H2 H3 → Ψ w H3 → Q w H3) → sp [v] H2 Q E) : EvP (tCall sp [] E (tCons tx tNil)) σ H Ψ := fun H1 a Q q =>
  h H1 a _ fun v H2 e f => k v H2 (a.trans e) f Q fun w H3 e3 g => q w H3 (e.trans e3) g
/-- data -/
def DP (K : PySem.W.Frag) (d : PyData) (v : V) (H : Hp) : Prop := Dp K H v d
theorem ep_dp {d : PyData} (h : Ev te σ H v) (hd : Dp K H v d) : EvP te σ H (DP K d) := ep_ev h fun _ e => dp_ex e d v hd
theorem ev_same {d : PyData} {n : Nat} (hx : EvP tx σ H (DP K d)) (hy : EvP ty σ H (DP K d)) (hf : fit d n = true) : Ev (tCall (spSame K (n + 1)) [] E (tCons tx (tCons ty tNil))) σ H (.bl true) := fun H1 a Q q =>
  hx H1 a _ fun x H2 e2 dx => hy H2 (a.trans e2) _ fun y H3 e3 dy => ⟨x, y, d, d, n, rfl, rfl, dp_ex e3 d x dx, dy, hf, hf, fun H4 e4 => by
    rw [sm_refl d n hf]
    exact q H4 ((e2.trans e3).trans e4)⟩
/-- if not same(..): return False -/
theorem q_same {D : Ends} {d : PyData} {n : Nat} {tr tz : TS} (hx : EvP tx σ H (DP K d)) (hy : EvP ty σ H (DP K d)) (hf : fit d n = true) (k : ∀ H1, Ex H H1 → tz D σ H1) :
    tSeq (tIfS (tNot (tB (tCall (spSame K (n + 1)) [] E (tCons tx (tCons ty tNil))))) tr tNext) tz D σ H :=
  q_when (et_not (et_B (ev_same hx hy hf))) (fun h => (nomatch h)) fun _ H1 e => k H1 e
/-- a list of ints -/
def IL (K : PySem.W.Frag) (l : List Int) (v : V) (H : Hp) : Prop := ∃ a, v = .ref a ∧ SqL K H a (l.map V.int)
abbrev LI (l : List Int) : PyData := .list (l.map PyData.int)
theorem ep_il {a : Addr} {l : List Int} (h : Ev te σ H (.ref a)) (hS : SqL K H a (l.map V.int)) : EvP te σ H (IL K l) := ep_ev h fun _ e => ⟨a, rfl, ex_l e hS⟩
theorem il_el {l : List Int} (h : EvL te σ H (l.map V.int)) : EvP te σ H (IL K l) := ep_el h fun p H2 _ hp => ⟨p, rfl, sq_of hp⟩
theorem il_dp {l : List Int} (h : EvP te σ H (IL K l)) : EvP te σ H (DP K (LI l)) := h.imp fun v H2 _ f => by
  obtain ⟨a, rfl, hS⟩ := f
  exact .lst hS (dpa_ints l)
theorem fit_LI {l : List Int} {n : Nat} (h : l.length ≤ 10000) : fit (LI l) (n + 1) = true := by
  rw [fit, fit_ints, Bool.and_true, decide_eq_true_eq, List.length_map]
  exact h
theorem q_run {i : Nat} {tz : TS} {D : Ends} (h : te σ H fun v H1 => tz D (σ.set i (some v)) H1) : tSeq (tAsg te (gName i)) tz D σ H := h
end
/-! ### statements -/
inductive Stm where
  | set (k : Nat) (r : List Int)
  | carry (r : List Int)
  | keep (cs : List Nat) (b : List Stm)
  | either (a b : List Stm)
  | again (b : List Stm)
  | call (p : Nat) (r : List Int) (a b : List Stm)
  | fin (w : Nat)
mutual
def toD : Stm → PyData
  | .set k r => .tuple [.str "set", .int (k : Int), LI r]
  | .carry r => .tuple [.str "carry", LI r]
  | .keep cs b => .tuple [.str "keep", LI (cs.map (Nat.cast : Nat → Int)), .list (toDs b)]
  | .either a b => .tuple [.str "either", .list (toDs a), .list (toDs b)]
  | .again b => .tuple [.str "again", .list (toDs b)]
  | .call p r a b => .tuple [.str "call", .int (p : Int), LI r, .list [.list (toDs a), .list (toDs b)]]
  | .fin w => .tuple [.str "end", .int (w : Int)]
def toDs : List Stm → List PyData
  | [] => []
  | s :: r => toD s :: toDs r
end
mutual
/-- how many statements, all levels counted -/
def cnt : Stm → Nat
  | .set _ _ => 1
  | .carry _ => 1
  | .keep _ b => 1 + cntL b
  | .either a b => 1 + cntL a + cntL b
  | .again b => 1 + cntL b
  | .call _ _ a b => 1 + cntL a + cntL b
  | .fin _ => 1
def cntL : List Stm → Nat
  | [] => 0
  | s :: r => cnt s + cntL r
end
def okR (c : Nat) (r : List Int) : Prop := r.length = c + 2 ∧ ∀ x ∈ r, -9 ≤ x ∧ x ≤ 9
/-- ascending, each below c -/
def asc (c : Nat) (cs : List Nat) : Prop := cs.Pairwise (· < ·) ∧ ∀ k ∈ cs, k < c
mutual
/-- a statement of a book with c cells and m procedures, at a level -/
def okS (c m : Nat) : Stm → Nat → Prop
  | .set k r, _ => k < c ∧ okR c r
  | .carry r, _ => okR c r
  | .keep cs b, lv => lv < 3 ∧ asc c cs ∧ b.length ≤ 8 ∧ okL c m b (lv + 1)
  | .either a b, lv => lv < 3 ∧ a.length ≤ 8 ∧ okL c m a (lv + 1) ∧ b.length ≤ 8 ∧ okL c m b (lv + 1)
  | .again b, lv => lv < 3 ∧ b.length ≤ 8 ∧ okL c m b (lv + 1)
  | .call p r a b, lv => lv < 3 ∧ p < m ∧ okR c r ∧ a.length ≤ 8 ∧ okL c m a (lv + 1) ∧ b.length ≤ 8 ∧ okL c m b (lv + 1)
  | .fin w, _ => w < 2
def okL (c m : Nat) : List Stm → Nat → Prop
  | [], _ => True
  | s :: r, lv => okS c m s lv ∧ okL c m r lv
end
theorem okL_app {c m lv : Nat} : ∀ {a b : List Stm}, okL c m a lv → okL c m b lv → okL c m (a ++ b) lv
  | [], _, _, h => h
  | s :: r, b, h, g => by
    rw [okL] at h
    rw [List.cons_append, okL]
    exact ⟨h.1, okL_app h.2 g⟩
theorem cntL_app : ∀ (a b : List Stm), cntL (a ++ b) = cntL a + cntL b
  | [], b => by rw [List.nil_append, cntL, Nat.zero_add]
  | s :: r, b => by rw [List.cons_append, cntL, cntL, cntL_app r b, Nat.add_assoc]
theorem toDs_app : ∀ (a b : List Stm), toDs (a ++ b) = toDs a ++ toDs b
  | [], b => by rw [List.nil_append, toDs, List.nil_append]
  | s :: r, b => by rw [List.cons_append, toDs, toDs, toDs_app r b, List.cons_append]
theorem toDs_map : ∀ l : List Stm, toDs l = l.map toD
  | [] => by rw [toDs]; rfl
  | s :: r => by rw [toDs, toDs_map r]; rfl
theorem toDs_len (l : List Stm) : (toDs l).length = l.length := by rw [toDs_map, List.length_map]
theorem okL_mem {c m lv : Nat} : ∀ {l : List Stm} {s : Stm}, okL c m l lv → s ∈ l → okS c m s lv
  | t :: r, s, h, hm => by
    rw [okL] at h
    rcases List.mem_cons.mp hm with rfl | hm
    · exact h.1
    · exact okL_mem h.2 hm
/-! ### data whose lists and tuples stand where N says -/
mutual
inductive Dq (N : Addr → Prop) (H : Hp) : V → PyData → Prop
  | non : Dq N H .non .none
  | bl (b : Bool) : Dq N H (.bl b) (.bool b)
  | int (i : Int) : Dq N H (.int i) (.int i)
  | str (x : Str) : Dq N H (.str x) (.str x)
  | lst {a : Addr} {xs : List V} {ds : List PyData} : N a → H a = some (.lst xs) → DqAll N H xs ds → Dq N H (.ref a) (.list ds)
  | tup {a : Addr} {xs : List V} {ds : List PyData} : N a → H a = some (.tup xs) → DqAll N H xs ds → Dq N H (.ref a) (.tuple ds)
inductive DqAll (N : Addr → Prop) (H : Hp) : List V → List PyData → Prop
  | nil : DqAll N H [] []
  | cons {v : V} {vs : List V} {d : PyData} {ds : List PyData} : Dq N H v d → DqAll N H vs ds → DqAll N H (v :: vs) (d :: ds)
end
section
variable {N N' : Addr → Prop} {H H' : Hp} {K : PySem.W.Frag}
mutual
theorem dq_to (h : ∀ a, N a → N' a) (k : ∀ a o, N a → H a = some o → H' a = some o) : ∀ (d : PyData) (v : V), Dq N H v d → Dq N' H' v d
  | .none, _, x => by cases x; exact .non
  | .bool _, _, x => by cases x; exact .bl _
  | .int _, _, x => by cases x; exact .int _
  | .str _, _, x => by cases x; exact .str _
  | .list ds, _, x => by
    cases x with
    | lst n s a => exact .lst (h _ n) (k _ _ n s) (dqa_to h k ds _ a)
  | .tuple ds, _, x => by
    cases x with
    | tup n s a => exact .tup (h _ n) (k _ _ n s) (dqa_to h k ds _ a)
  | .dict _, _, x => by cases x
theorem dqa_to (h : ∀ a, N a → N' a) (k : ∀ a o, N a → H a = some o → H' a = some o) : ∀ (ds : List PyData) (vs : List V), DqAll N H vs ds → DqAll N' H' vs ds
  | [], _, x => by cases x; exact .nil
  | d :: ds, _, x => by
    cases x with
    | cons a b => exact .cons (dq_to h k d _ a) (dqa_to h k ds _ b)
end
mutual
theorem dq_dp : ∀ (d : PyData) (v : V), Dq N H v d → Dp K H v d
  | .none, _, x => by cases x; exact .non
  | .bool _, _, x => by cases x; exact .bl _
  | .int _, _, x => by cases x; exact .int _
  | .str _, _, x => by cases x; exact .str _
  | .list ds, _, x => by
    cases x with
    | lst n s a => exact .lst (sq_of s) (dqa_dpa ds _ a)
  | .tuple ds, _, x => by
    cases x with
    | tup n s a => exact .tup (st_of s) (dqa_dpa ds _ a)
  | .dict _, _, x => by cases x
theorem dqa_dpa : ∀ (ds : List PyData) (vs : List V), DqAll N H vs ds → DpAll K H vs ds
  | [], _, x => by cases x; exact .nil
  | d :: ds, _, x => by
    cases x with
    | cons a b => exact .cons (dq_dp d _ a) (dqa_dpa ds _ b)
end
theorem dqa_app : ∀ {vs ws : List V} {ds es : List PyData}, DqAll N H vs ds → DqAll N H ws es → DqAll N H (vs ++ ws) (ds ++ es)
  | _, _, _, _, .nil, h => h
  | _, _, _, _, .cons a b, h => .cons a (dqa_app b h)
theorem dqa_len : ∀ {vs : List V} {ds : List PyData}, DqAll N H vs ds → vs.length = ds.length
  | _, _, .nil => rfl
  | _, _, .cons _ b => by rw [List.length_cons, List.length_cons, dqa_len b]
theorem dqa_ints : ∀ ns : List Int, DqAll N H (ns.map V.int) (ns.map PyData.int)
  | [] => .nil
  | n :: r => .cons (.int n) (dqa_ints r)
theorem dq_LI {a : Addr} {l : List Int} (n : N a) (h : H a = some (.lst (l.map V.int))) : Dq N H (.ref a) (LI l) := .lst n h (dqa_ints l)
end
/-- new since H -/
def New (H : Hp) (a : Addr) : Prop := H a = none
/-- all but p and wd as it was -/
def Oth2 (p wd : Addr) (H H' : Hp) : Prop := ∀ a o, a ≠ p → a ≠ wd → H a = some o → H' a = some o
theorem Oth2.refl (p wd : Addr) (H : Hp) : Oth2 p wd H H := fun _ _ _ _ h => h
theorem Oth2.trans {p wd : Addr} {H H1 H2 : Hp} (a : Oth2 p wd H H1) (b : Oth2 p wd H1 H2) : Oth2 p wd H H2 := fun c o n m h => b c o n m (a c o n m h)
theorem Oth2.of {p wd : Addr} {H H1 : Hp} (a : Ex H H1) : Oth2 p wd H H1 := fun c o _ _ h => a c o h
theorem Oth2.one {p wd : Addr} {H H1 : Hp} (a : Oth p H H1) : Oth2 p wd H H1 := fun c o n _ h => a c o n h
theorem new_back {p : Addr} {H H1 : Hp} {a : Addr} (o : Oth p H H1) (hp : ∃ u, H1 p = some u) (h : New H1 a) : New H a := by
  obtain ⟨u, hu⟩ := hp
  have hap : a ≠ p := fun z => by rw [z] at h; unfold New at h; rw [hu] at h; cases h
  unfold New at *
  cases e : H a with
  | none => rfl
  | some w => rw [o _ _ hap e] at h; cases h
theorem new_ne {H : Hp} {a p : Addr} (h : New H a) (hp : ∃ u, H p = some u) : a ≠ p := fun z => by
  obtain ⟨u, hu⟩ := hp
  unfold New at h
  rw [z, hu] at h; cases h
theorem new_back2 {p wd : Addr} {H H1 : Hp} {a : Addr} (o : Oth2 p wd H H1) (hp : ∃ u, H1 p = some u) (hw : ∃ u, H1 wd = some u) (h : New H1 a) : New H a := by
  have h1 := new_ne h hp
  have h2 := new_ne h hw
  unfold New at *
  cases e : H a with
  | none => rfl
  | some w => rw [o _ _ h1 h2 e] at h; cases h
/-- the counts of a body that is being made -/
structure World3 (H : Hp) (wd q : Addr) (c m room : Nat) : Prop where
  hw : H wd = some (.lst [.int (c : Int), .int (m : Int), .int (room : Int)])
  ne : wd ≠ q
theorem World3.nep {H : Hp} {wd p q : Addr} {c m room : Nat} (w : World3 H wd q c m room) (x : Pool H p q) : wd ≠ p := by
  obtain ⟨i, b, t, s, cs, x⟩ := x
  exact ne_of w.hw x.hp fun e => by
    have := congrArg List.length (HO.lst.inj e)
    cases this
theorem World3.one {H H' : Hp} {wd p q : Addr} {c m room : Nat} (w : World3 H wd q c m room) (x : Pool H p q) (o : Oth p H H') : World3 H' wd q c m room := ⟨o _ _ (w.nep x) w.hw, w.ne⟩
theorem World3.ex {H H' : Hp} {wd q : Addr} {c m room : Nat} (w : World3 H wd q c m room) (o : Ex H H') : World3 H' wd q c m room := ⟨o _ _ w.hw, w.ne⟩
abbrev s_law_row : Stmt := topS 45
theorem sc_law_row : FnScope ["pool", "cells", "row", "k", "wide"] ["pool", "cells"] (defScope s_law_row) := ⟨rfl, rfl, rfl, by decide +kernel, rfl, by decide +kernel, by decide +kernel⟩
abbrev s_law_command : Stmt := topS 46
theorem sc_law_command : FnScope ["pool", "cells", "at"] ["pool", "cells"] (defScope s_law_command) := ⟨rfl, rfl, rfl, by decide +kernel, rfl, by decide +kernel, by decide +kernel⟩
abbrev s_law_some_cells : Stmt := topS 47
theorem sc_law_some_cells : FnScope ["pool", "cells", "cell", "k"] ["pool", "cells"] (defScope s_law_some_cells) := ⟨rfl, rfl, rfl, by decide +kernel, rfl, by decide +kernel, by decide +kernel⟩
section
variable {P : Program} {w : World} {K : PySem.W.Frag} {mg : Str → Option Value} {base : Heap}
def spRow : Sp := fun vs H Q _ => ∃ (p q : Addr) (c : Nat), vs = [.ref p, .int (c : Int)] ∧ c ≤ 3 ∧ Pool H p q ∧ ∀ (r : List Int) (D : Addr) (H' : Hp), okR c r → H D = none → Oth p H H' → Pool H' p q → H' D = some (.lst (r.map V.int)) → Q (.ref D) H'
theorem ok_row {f : Addr} {fd : FuncData} {k : Nat} (F : Fun K "_law_row" "_law_row" s_law_row f fd) (z_range : mg "range" = none) (C_law_draw : Cal P w K mg base 1 "_law_draw" spDraw []) (hk : 1 ≤ k) : FnOk P w K mg base CX0 (k + 1) f fd ["pool", "cells"] spRow := by
  have sc := sc_law_row
  refine F.ok sc (fun vs H Q E h => ?_) (fun cdv A outer s H vs Q E hr h => ?_)
  · obtain ⟨p, q0, c, rfl, _⟩ := h
    rfl
  · obtain ⟨p, q0, c, rfl, h3, x, q⟩ := h
    refine ⟨_, (pss_cons (ps_set (i := 2) sc.nd rfl (by first | exact Or.inl rfl | exact Or.inr rfl) (pe_lst pa_nil))
      (pss_cons (ps_for PassesOwn.never rfl (pi_range1 (by rfl) z_range (pa_cons (pe_op op_add (pv 1) pe_int) pa_nil)) (pg_name (i := 3) sc.nd rfl (by first | exact Or.inl rfl | exact Or.inr rfl))
      (pss_cons (ps_set (i := 4) sc.nd rfl (by first | exact Or.inl rfl | exact Or.inr rfl) (pe_c C_law_draw hr (by omega) (by rfl) (pa_cons (pv 0) (pa_cons pe_int pa_nil))))
      (pss_one (ps_if (pt_cmpR op_eq (pv 4) pe_int (nomark _))
      (pss_one (ps_expr (pe_bm PySem.F.plainAttrs_list PySem.F.slot_list_append PySem.F.type_list_append mt_append (pv 2) (pa_cons (pe_op op_sub (pe_c C_law_draw hr (by omega) (by rfl) (pa_cons (pv 0) (pa_cons pe_int pa_nil))) pe_int) pa_nil))))
      (pss_one (ps_expr (pe_bm PySem.F.plainAttrs_list PySem.F.slot_list_append PySem.F.type_list_append mt_append (pv 2) (pa_cons (pe_op op_sub (pe_c C_law_draw hr (by omega) (by rfl) (pa_cons (pv 0) (pa_cons pe_int pa_nil))) pe_int) pa_nil))))))))
      (pss_one (ps_ret (pv 2))))), ?_⟩
    refine q_asgL (el_lst ea_nil (by decide)) fun F0 H1 nF e1 hF => ?_
    have Fp : F0 ≠ p := new_ne nF x.isP
    have Fq : F0 ≠ q0 := new_ne nF x.isQ
    refine q_forR1 (n := ((c + 2 : Nat) : Int)) (ea_cons (ev_is (ev_op (ev_var rfl) ev_c rv_I0) (by rw [Int.natCast_add]; rfl)) ea_nil) ⟨by omega, by omega⟩
      (fun i σ' H' => ∃ (r : List Int) (y3 y4 : Option V), σ' = [some (.ref p), some (.int (c : Int)), some (.ref F0), y3, y4] ∧ r.length = i ∧ (∀ z ∈ r, -9 ≤ z ∧ z ≤ 9) ∧ Oth p H H' ∧ Pool H' p q0 ∧ H' F0 = some (.lst (r.map V.int)))
      (fun H2 e2 => ⟨[], _, _, rfl, rfl, fun _ h => (nomatch h), .of (e1.trans e2), x.ex (e1.trans e2), e2 _ _ hF⟩) (fun i σ' H' hi hW => ?_) (fun σ' H' hW => ?_)
    · obtain ⟨r, y3, y4, rfl, rfl, hb, o, x, hF⟩ := hW
      have add : ∀ (z : Int) (H3 : Hp), -9 ≤ z → z ≤ 9 → Oth p H' H3 → Pool H3 p q0 → ∃ acc, H3 F0 = some (.lst acc) ∧ acc = r.map V.int ∧ ∃ (r' : List Int), acc ++ [V.int z] = r'.map V.int ∧ r'.length = r.length + 1 ∧ (∀ y ∈ r', -9 ≤ y ∧ y ≤ 9) ∧ Oth p H (upd H3 F0 (.lst (acc ++ [V.int z]))) ∧ Pool (upd H3 F0 (.lst (acc ++ [V.int z]))) p q0 := fun z H3 z0 z9 o3 x3 => by
        refine ⟨_, o3 _ _ Fp hF, rfl, r ++ [z], by rw [List.map_append]; rfl, by simp, fun y hy => ?_, fun a u na ha => ?_, x3.upd Fp Fq⟩
        · rcases List.mem_append.mp hy with hy | hy
          · exact hb y hy
          · rw [List.mem_singleton.mp hy]; exact ⟨z0, z9⟩
        · rw [upd_ne (ne_of_none ha nF)]
          exact o3 _ _ na (o _ _ na ha)
      refine q_run ?_
      refine ⟨.ref p, rfl, p, q0, 4, rfl, by decide, by decide, x, fun wd H2 w0 w4 o2 x2 => ?_⟩
      refine ⟨.int wd, rfl, rfl, _, rfl, ite2 (fun _ => ?_) (fun _ => ?_)⟩
      · refine ⟨.ref F0, rfl, .inl ⟨rfl, _, sq_of (o2 _ _ Fp hF)⟩, .ref p, rfl, p, q0, 19, rfl, by decide, by decide, x2, fun z H3 z0 z1 o3 x3 => ?_⟩
        obtain ⟨acc, hacc, ea, r', er, lr, br, oo, xx⟩ := add (z - 9) H3 (by omega) (by omega) (o2.trans o3) x3
        refine ⟨z, 9, rfl, rfl, F0, acc, _, rfl, rfl, hacc, ?_, r', _, _, rfl, lr, br, oo, xx, ?_⟩
        · rw [ea, List.length_map]; exact sz_lt (by omega)
        · rw [upd_same, er]
      · refine ⟨.ref F0, rfl, .inl ⟨rfl, _, sq_of (o2 _ _ Fp hF)⟩, .ref p, rfl, p, q0, 3, rfl, by decide, by decide, x2, fun z H3 z0 z1 o3 x3 => ?_⟩
        obtain ⟨acc, hacc, ea, r', er, lr, br, oo, xx⟩ := add (z - 1) H3 (by omega) (by omega) (o2.trans o3) x3
        refine ⟨z, 1, rfl, rfl, F0, acc, _, rfl, rfl, hacc, ?_, r', _, _, rfl, lr, br, oo, xx, ?_⟩
        · rw [ea, List.length_map]; exact sz_lt (by omega)
        · rw [upd_same, er]
    · obtain ⟨r, y3, y4, rfl, lr, hb, o, x, hF⟩ := hW
      refine s_ret (ev_var rfl) fun H2 e2 => q r F0 H2 ⟨by omega, hb⟩ nF (o.trans (.of e2)) (x.ex e2) (e2 _ _ hF)
/-- a command -/
def isCmd (c : Nat) : Stm → Prop
  | .set k r => k < c ∧ okR c r
  | .carry r => okR c r
  | _ => False
theorem isCmd_ok {c m lv : Nat} {s : Stm} (h : isCmd c s) : okS c m s lv ∧ cnt s = 1 := by
  cases s with
  | set k r => rw [okS, cnt]; exact ⟨h, rfl⟩
  | carry r => rw [okS, cnt]; exact ⟨h, rfl⟩
  | _ => exact h.elim
def spCmd : Sp := fun vs H Q _ => ∃ (p q : Addr) (c : Nat), vs = [.ref p, .int (c : Int)] ∧ 1 ≤ c ∧ c ≤ 3 ∧ Pool H p q ∧ ∀ (s : Stm) (v : V) (H' : Hp), isCmd c s → Oth p H H' → Pool H' p q → Dq (New H) H' v (toD s) → Q v H'
theorem ok_command {f : Addr} {fd : FuncData} {k : Nat} (F : Fun K "_law_command" "_law_command" s_law_command f fd) (C_law_draw : Cal P w K mg base 1 "_law_draw" spDraw []) (C_law_row : Cal P w K mg base 2 "_law_row" spRow []) (hk : 2 ≤ k) : FnOk P w K mg base CX0 (k + 1) f fd ["pool", "cells"] spCmd := by
  have sc := sc_law_command
  refine F.ok sc (fun vs H Q E h => ?_) (fun cdv A outer s H vs Q E hr h => ?_)
  · obtain ⟨p, q0, c, rfl, _⟩ := h
    rfl
  · obtain ⟨p, q0, c, rfl, h1, h3, x, q⟩ := h
    refine ⟨_, (pss_cons (ps_set (i := 2) sc.nd rfl (by first | exact Or.inl rfl | exact Or.inr rfl) (pe_c C_law_draw hr (by omega) (by rfl) (pa_cons (pv 0) (pa_cons (pe_op op_add (pv 1) pe_int) pa_nil))))
      (pss_cons (ps_if (pt_cmpR op_eq (pv 2) (pv 1) (nomark _))
      (pss_one (ps_ret (pe_tup (pa_cons pe_str (pa_cons (pe_c C_law_row hr (by omega) (by rfl) (pa_cons (pv 0) (pa_cons (pv 1) pa_nil))) pa_nil)))))
      pss_nil)
      (pss_one (ps_ret (pe_tup (pa_cons pe_str (pa_cons (pv 2) (pa_cons (pe_c C_law_row hr (by omega) (by rfl) (pa_cons (pv 0) (pa_cons (pv 1) pa_nil))) pa_nil)))))))), ?_⟩
    refine q_run ?_
    refine ⟨.ref p, rfl, .int (c : Int), rfl, (c : Int), 1, rfl, rfl, p, q0, (c : Int) + 1, rfl, by omega, Nat.lt_of_le_of_lt (show ((c : Int) + 1).natAbs ≤ 4 by omega) (by decide), x, fun z H2 z0 z1 o2 x2 => ?_⟩
    refine ⟨.int z, rfl, .int (c : Int), rfl, rfl, _, rfl, ite2 (fun _ => ?_) (fun hz => ?_)⟩
    · refine ⟨.ref p, rfl, .int (c : Int), rfl, p, q0, c, rfl, h3, x2, fun r D H3 hr nD o3 x3 hD => ?_⟩
      refine ⟨by show 2 ≤ sizeLine; decide, fun T nT => q (.carry r) _ _ hr (o2.trans (o3.trans (.of (Ex.new nT)))) (x3.ex (Ex.new nT)) ?_⟩
      rw [toD]
      have nD0 : New H D := new_back o2 x2.isP nD
      exact .tup (new_back (o2.trans o3) x3.isP nT) upd_same (.cons (.str _) (.cons (dq_LI nD0 (Ex.new nT _ _ hD)) .nil))
    · have hne : z ≠ (c : Int) := fun e => hz (by rw [e]; exact decide_eq_true rfl)
      obtain ⟨kk, rfl⟩ : ∃ kk : Nat, z = (kk : Int) := ⟨z.toNat, by omega⟩
      refine ⟨.int (kk : Int), rfl, .ref p, rfl, .int (c : Int), rfl, p, q0, c, rfl, h3, x2, fun r D H3 hr nD o3 x3 hD => ?_⟩
      refine ⟨by show 3 ≤ sizeLine; decide, fun T nT => q (.set kk r) _ _ ⟨by omega, hr⟩ (o2.trans (o3.trans (.of (Ex.new nT)))) (x3.ex (Ex.new nT)) ?_⟩
      rw [toD]
      have nD0 : New H D := new_back o2 x2.isP nD
      exact .tup (new_back (o2.trans o3) x3.isP nT) upd_same (.cons (.str _) (.cons (.int _) (.cons (dq_LI nD0 (Ex.new nT _ _ hD)) .nil)))
def spCells : Sp := fun vs H Q _ => ∃ (p q : Addr) (c : Nat), vs = [.ref p, .int (c : Int)] ∧ c ≤ 3 ∧ Pool H p q ∧ ∀ (cs : List Nat) (D : Addr) (H' : Hp), asc c cs → H D = none → Oth p H H' → Pool H' p q → H' D = some (.lst ((cs.map (Nat.cast : Nat → Int)).map V.int)) → Q (.ref D) H'
theorem asc_step {i : Nat} {cs : List Nat} (h : asc i cs) : asc (i + 1) (cs ++ [i]) ∧ asc (i + 1) cs := by
  refine ⟨⟨?_, fun k hk => ?_⟩, h.1, fun k hk => Nat.lt_succ_of_lt (h.2 k hk)⟩
  · rw [List.pairwise_append]
    exact ⟨h.1, by simp, fun a ha b hb => by rw [List.mem_singleton.mp hb]; exact h.2 a ha⟩
  · rcases List.mem_append.mp hk with hk | hk
    · exact Nat.lt_succ_of_lt (h.2 k hk)
    · rw [List.mem_singleton.mp hk]; exact Nat.lt_succ_self _
theorem ok_cells {f : Addr} {fd : FuncData} {k : Nat} (F : Fun K "_law_some_cells" "_law_some_cells" s_law_some_cells f fd) (z_range : mg "range" = none) (C_law_draw : Cal P w K mg base 1 "_law_draw" spDraw []) (hk : 1 ≤ k) : FnOk P w K mg base CX0 (k + 1) f fd ["pool", "cells"] spCells := by
  have sc := sc_law_some_cells
  refine F.ok sc (fun vs H Q E h => ?_) (fun cdv A outer s H vs Q E hr h => ?_)
  · obtain ⟨p, q0, c, rfl, _⟩ := h
    rfl
  · obtain ⟨p, q0, c, rfl, h3, x, q⟩ := h
    refine ⟨_, (pss_one (ps_ret (pe_lc (own := [("cell", 2)]) (by rfl) sc.nd (pi_list (pe_lc (own := [("k", 3)]) (by rfl) sc.nd (pi_range1 (by rfl) z_range (pa_cons (pv 1) pa_nil)) (blkOk_by (own := [("k", 3)]) (N := ["pool", "cells", "cell", "k"]) (sc := defScope s_law_some_cells) (by decide +kernel)) (fun _ _ _ _ _ => (pg_name (i := 3) sc.nd rfl (by first | exact Or.inl rfl | exact Or.inr rfl))) (fun _ _ _ _ _ => pts_nil) (fun _ _ _ _ _ => (pv 3)))) (blkOk_by (own := [("cell", 2)]) (N := ["pool", "cells", "cell", "k"]) (sc := defScope s_law_some_cells) (by decide +kernel)) (fun _ _ _ _ _ => (pg_name (i := 2) sc.nd rfl (by first | exact Or.inl rfl | exact Or.inr rfl))) (fun _ _ _ _ _ => (pts_one (pt_cmpR op_eq (pe_c C_law_draw hr (by omega) (by rfl) (pa_cons (pv 0) (pa_cons pe_int pa_nil))) pe_int (nomark _)))) (fun _ _ _ _ _ => (pv 2))))), ?_⟩
    refine s_retR (lc_new (el_rng (n := c) (fun i => .int (i : Int)) (ea_cons (ev_var rfl) ea_nil) (by omega) (fun _ => rfl) (fun i H1 e1 hi => ev_var rfl)) fun L H1 nL e1 hL D nD => ?_)
    have x1 := x.ex e1
    have Dp1 : D ≠ p := new_ne nD x1.isP
    have Dq1 : D ≠ q0 := new_ne nD x1.isQ
    have DL : L ≠ D := ne_of_none hL nD
    have Lp : L ≠ p := new_ne nL x.isP
    refine lc_list (xs := (List.range c).map fun (i : Nat) => V.int (i : Int)) (fun i H' => ∃ cs : List Nat, asc i cs ∧ cs.length ≤ i ∧ Oth p H1 H' ∧ Pool H' p q0 ∧ H' D = some (.lst ((cs.map (Nat.cast : Nat → Int)).map V.int)))
      ⟨[], ⟨.nil, fun _ h => (nomatch h)⟩, Nat.le_refl _, .of (Ex.new nD), x1.ex (Ex.new nD), upd_same⟩ (fun i H' _ hP => ?_) (fun i v H' hi hP => ?_) (fun H' hP => ?_)
    · obtain ⟨cs, _, _, o, _⟩ := hP
      exact sq_of (o _ _ Lp hL)
    · obtain ⟨cs, ha, hlen, o, x2, hD⟩ := hP
      have hic : i < c := by
        have := (List.getElem?_eq_some_iff.mp hi).1
        rw [List.length_map, List.length_range] at this
        exact this
      rw [List.getElem?_map, List.getElem?_range hic] at hi
      have hv : V.int (i : Int) = v := Option.some.inj hi
      subst hv
      show wipe ((wipe _ _).set 2 (some (.int (i : Int)))) _ = wipe _ _ ∧ _
      refine ⟨rfl, .ref p, rfl, p, q0, 2, rfl, by decide, by decide, x2, fun z H3 z0 z1 o3 x3 => ?_⟩
      refine ⟨rfl, _, rfl, ite2 (fun _ => ?_) (fun _ => ?_)⟩
      · refine ⟨.int (i : Int), rfl, _, o3 _ _ Dp1 hD, ?_, cs ++ [i], (asc_step ha).1, by simp; omega, fun a u na hu => ?_, x3.upd Dp1 Dq1, ?_⟩
        · rw [List.length_map, List.length_map]; exact sz_lt (by omega)
        · rw [upd_ne (ne_of_none hu nD)]
          exact o3 _ _ na (o _ _ na hu)
        · rw [upd_same, List.map_append, List.map_append]; rfl
      · exact ⟨cs, (asc_step ha).2, by omega, o.trans o3, x3, o3 _ _ Dp1 hD⟩
    · obtain ⟨cs, ha, hlen, o, x2, hD⟩ := hP
      rw [List.length_map, List.length_range] at ha
      exact q cs D H' ha (fresh_back e1 nD) ((Oth.of e1).trans o) x2 hD
end
abbrev s_law_block : Stmt := topS 48
theorem sc_law_block : FnScope ["pool", "world", "tier", "most", "found", "k"] ["pool", "world", "tier", "most"] (defScope s_law_block) := ⟨rfl, rfl, rfl, by decide +kernel, rfl, by decide +kernel, by decide +kernel⟩
abbrev s_law_statement : Stmt := topS 49
theorem sc_law_statement : FnScope ["pool", "world", "tier", "kind", "cells", "procedure", "row", "first", "kept"] ["pool", "world", "tier"] (defScope s_law_statement) := ⟨rfl, rfl, rfl, by decide +kernel, rfl, by decide +kernel, by decide +kernel⟩
abbrev s_law_body : Stmt := topS 50
theorem sc_law_body : FnScope ["pool", "cells", "many", "room", "tier", "world", "body"] ["pool", "cells", "many", "room", "tier"] (defScope s_law_body) := ⟨rfl, rfl, rfl, by decide +kernel, rfl, by decide +kernel, by decide +kernel⟩
abbrev s_law_bodies : Stmt := topS 51
theorem sc_law_bodies : FnScope ["pool", "cells", "many", "room", "k"] ["pool", "cells", "many", "room"] (defScope s_law_bodies) := ⟨rfl, rfl, rfl, by decide +kernel, rfl, by decide +kernel, by decide +kernel⟩
section
variable {P : Program} {w : World} {K : PySem.W.Frag} {mg : Str → Option Value} {base : Heap}
/-- a statement at the level t -/
def spStmt (t : Nat) : Sp := fun vs H Q _ => ∃ (p q wd : Addr) (c m room : Nat), vs = [.ref p, .ref wd, .int (t : Int)] ∧ t ≤ 3 ∧ 1 ≤ c ∧ c ≤ 3 ∧ 1 ≤ m ∧ m ≤ 3 ∧ Pool H p q ∧ World3 H wd q c m room ∧
  ∀ (s : Stm) (v : V) (room' : Nat) (H' : Hp), okS c m s t → room' + cnt s = room + 1 → Oth2 p wd H H' → Pool H' p q → World3 H' wd q c m room' → Dq (New H) H' v (toD s) → Q v H'
/-- a block at the level t -/
def spBlk (t : Nat) : Sp := fun vs H Q _ => ∃ (p q wd : Addr) (c m room most : Nat), vs = [.ref p, .ref wd, .int (t : Int), .int (most : Int)] ∧ t ≤ 3 ∧ most ≤ 3 ∧ 1 ≤ c ∧ c ≤ 3 ∧ 1 ≤ m ∧ m ≤ 3 ∧ Pool H p q ∧ World3 H wd q c m room ∧
  ∀ (b : List Stm) (v : V) (room' : Nat) (H' : Hp), okL c m b t → b.length ≤ most → room' + cntL b = room → Oth2 p wd H H' → Pool H' p q → World3 H' wd q c m room' → Dq (New H) H' v (.list (toDs b)) → Q v H'
theorem ev_w {σ : L2.St} {H : Hp} {wd q : Addr} {c m room : Nat} {te : TE} (h : Ev te σ H (.ref wd)) (x : World3 H wd q c m room) : Ev (tOp (rIxL K) te (tC (.int 2))) σ H (.int (room : Int)) ∧ Ev (tOp (rIxL K) te (tC (.int 0))) σ H (.int (c : Int)) ∧ Ev (tOp (rIxL K) te (tC (.int 1))) σ H (.int (m : Int)) :=
  ⟨ev_op h ev_c (rv_ixL (sq_of x.hw) (atI_nat (j := 2) rfl)), ev_op h ev_c (rv_ixL (sq_of x.hw) (atI_nat (j := 0) rfl)), ev_op h ev_c (rv_ixL (sq_of x.hw) (atI_nat (j := 1) rfl))⟩
theorem pool_isW {H : Hp} {wd q : Addr} {c m room : Nat} (x : World3 H wd q c m room) : ∃ u, H wd = some u := ⟨_, x.hw⟩
theorem ok_block {f : Addr} {fd : FuncData} {k t : Nat} (F : Fun K "_law_block" "_law_block" s_law_block f fd) (z_range : mg "range" = none) (C_law_draw : Cal P w K mg base 1 "_law_draw" spDraw []) (C_law_statement : Cal P w K mg base k "_law_statement" (spStmt t) []) (hk : 1 ≤ k) :
    FnOk P w K mg base CX0 (k + 1) f fd ["pool", "world", "tier", "most"] (spBlk t) := by
  have sc := sc_law_block
  refine F.ok sc (fun vs H Q E h => ?_) (fun cdv A outer s H vs Q E hr h => ?_)
  · obtain ⟨p, q0, wd, c, m, room, most, rfl, _⟩ := h
    rfl
  · obtain ⟨p, q0, wd, c, m, room, most, rfl, ht, hmost, c1, c3, m1, m3, x, W, q⟩ := h
    refine ⟨_, (pss_cons (ps_set (i := 4) sc.nd rfl (by first | exact Or.inl rfl | exact Or.inr rfl) (pe_lst pa_nil))
      (pss_cons (ps_for PassesOwn.never rfl (pi_range1 (by rfl) z_range (pa_cons (pe_c C_law_draw hr (by omega) (by rfl) (pa_cons (pv 0) (pa_cons (pe_op op_add (pv 3) pe_int) pa_nil))) pa_nil)) (pg_name (i := 5) sc.nd rfl (by first | exact Or.inl rfl | exact Or.inr rfl))
      (pss_one (ps_if (pt_cmpR op_gt (pe_ix ix_list (pv 1) pe_int (fun _ _ => rfl)) pe_int (nomark _))
      (pss_cons (ps_asg (pe_op op_sub (pe_ix ix_list (pv 1) pe_int (fun _ _ => rfl)) pe_int) (pg_sub (pv 1) pe_int set_list))
      (pss_one (ps_expr (pe_bm PySem.F.plainAttrs_list PySem.F.slot_list_append PySem.F.type_list_append mt_append (pv 4) (pa_cons (pe_c C_law_statement hr (by omega) (by rfl) (pa_cons (pv 0) (pa_cons (pv 1) (pa_cons (pv 2) pa_nil)))) pa_nil)))))
      pss_nil)))
      (pss_one (ps_ret (pv 4))))), ?_⟩
    refine q_asgL (el_lst ea_nil (by decide)) fun F0 H1 nF e1 hF => ?_
    have x1 := x.ex e1
    have W1 := W.ex e1
    have Fp : F0 ≠ p := new_ne nF x.isP
    have Fq : F0 ≠ q0 := new_ne nF x.isQ
    have Fw : F0 ≠ wd := new_ne nF (pool_isW W)
    -- the loop's length is drawn
    refine ⟨.ref p, rfl, .int (most : Int), rfl, (most : Int), 1, rfl, rfl, p, q0, (most : Int) + 1, rfl, by omega, Nat.lt_of_le_of_lt (show ((most : Int) + 1).natAbs ≤ 4 by omega) (by decide), x1, fun z H2 z0 z1 o2 x2 => ⟨z, rfl, by omega, by omega, ?_⟩⟩
    have e12 : Oth2 p wd H H2 := (Oth2.of e1).trans (.one o2)
    refine for_range (lo := 0) (n := z.toNat) (g := gName 5) (D := { nx := tRet (tVar 4) { nx := fun _ H' => Q .non H', rt := Q }, rt := Q }) (fun i σ' H' => ∃ (b : List Stm) (y5 : Option V) (room' : Nat) (xs : List V), σ' = [some (.ref p), some (.ref wd), some (.int (t : Int)), some (.int (most : Int)), some (.ref F0), y5] ∧ okL c m b t ∧ b.length ≤ i ∧ room' + cntL b = room ∧ Oth2 p wd H H' ∧ Pool H' p q0 ∧ World3 H' wd q0 c m room' ∧ H' F0 = some (.lst xs) ∧ DqAll (fun a => New H a ∧ a ≠ F0) H' xs (toDs b))
      ⟨[], none, room, [], rfl, by rw [okL]; trivial, Nat.le_refl _, by rw [cntL]; rfl, e12, x2, W1.one x1 o2, o2 _ _ Fp hF, by rw [toDs]; exact .nil⟩ (fun i σ' H' hi hP => ?_) (fun σ' H' hP => ?_)
    · obtain ⟨b, y5, room', xs, rfl, hok, hlen, hroom, o, x', W', hF', hd⟩ := hP
      have i4 : i < 4 := by omega
      have lx : xs.length = b.length := by rw [dqa_len hd, toDs_len]
      refine s_when (et_test (ev_op (ev_w (ev_var rfl) W').1 ev_c rv_I0)) (fun hb H3 e3 => ?_) (fun hb H3 e3 => ?_)
      · have hpos : (0 : Int) < (room' : Int) := of_decide_eq_true hb
        obtain ⟨r1, rfl⟩ : ∃ r1, room' = r1 + 1 := ⟨room' - 1, by omega⟩
        have x3 := x'.ex e3
        have W3 := W'.ex e3
        have wp := W3.nep x3
        refine q_setL (j := 2) (v := .int (r1 : Int)) W3.hw (ev_is (ev_op (ev_w (ev_var rfl) W3).1 ev_c rv_I0) (congrArg V.int (by omega))) (ev_var rfl) ev_c (by show 2 < 3; decide) fun H4 e4 => ?_
        have x4 : Pool (upd H4 wd (.lst [.int (c : Int), .int (m : Int), .int (r1 : Int)])) p q0 := (x3.ex e4).upd wp W3.ne
        have W4 : World3 (upd H4 wd (.lst [.int (c : Int), .int (m : Int), .int (r1 : Int)])) wd q0 c m r1 := ⟨upd_same, W3.ne⟩
        have o4 : Oth2 p wd H (upd H4 wd (.lst [.int (c : Int), .int (m : Int), .int (r1 : Int)])) := fun a u n1 n2 ha => by
          rw [upd_ne n2]
          exact e4 _ _ (e3 _ _ (o a u n1 n2 ha))
        have hF4 : (upd H4 wd (.lst [.int (c : Int), .int (m : Int), .int (r1 : Int)])) F0 = some (.lst xs) := by
          rw [upd_ne Fw]
          exact e4 _ _ (e3 _ _ hF')
        have hd4 : DqAll (fun a => New H a ∧ a ≠ F0) (upd H4 wd (.lst [.int (c : Int), .int (m : Int), .int (r1 : Int)])) xs (toDs b) := dqa_to (fun _ h => h) (fun a u n ha => by
          rw [upd_ne (new_ne n.1 (pool_isW W))]
          exact e4 _ _ (e3 _ _ ha)) _ _ hd
        refine ⟨.ref F0, rfl, .inl ⟨rfl, _, sq_of hF4⟩, .ref p, rfl, .ref wd, rfl, .int (t : Int), rfl, p, q0, wd, c, m, r1, rfl, ht, c1, c3, m1, m3, x4, W4, fun s v r2 H6 oks hc o6 x6 W6 dq => ?_⟩
        have hF6 := o6 _ _ Fp Fw hF4
        refine ⟨F0, xs, v, rfl, rfl, hF6, sz_lt (by omega), b ++ [s], _, r2, xs ++ [v], rfl, okL_app hok (by rw [okL, okL]; exact ⟨oks, trivial⟩), by simp; omega, ?_, fun a u n1 n2 ha => ?_, x6.upd Fp Fq, ⟨by rw [upd_ne Fw.symm]; exact W6.hw, W6.ne⟩, upd_same, ?_⟩
        · rw [cntL_app, cntL, cntL]; omega
        · rw [upd_ne (ne_of_none ha nF)]
          exact o6 _ _ n1 n2 (o4 _ _ n1 n2 ha)
        · rw [toDs_app]
          refine dqa_app (dqa_to (fun _ h => h) (fun a u n ha => ?_) _ _ hd4) ?_
          · rw [upd_ne n.2]
            exact o6 _ _ (new_ne n.1 x.isP) (new_ne n.1 (pool_isW W)) ha
          · rw [toDs, toDs]
            exact .cons (dq_to (fun a n => ⟨new_back2 o4 x4.isP (pool_isW W4) n, new_ne n ⟨_, hF4⟩⟩) (fun a u n ha => by rw [upd_ne (new_ne n ⟨_, hF4⟩)]; exact ha) _ _ dq) .nil
      · exact ⟨b, _, room', xs, rfl, hok, by omega, hroom, o.trans (.of e3), x'.ex e3, W'.ex e3, e3 _ _ hF', dqa_to (fun _ h => h) (fun a u n ha => e3 _ _ ha) _ _ hd⟩
    · obtain ⟨b, y5, room', xs, rfl, hok, hlen, hroom, o, x', W', hF', hd⟩ := hP
      refine s_ret (ev_var rfl) fun H3 e3 => q b (.ref F0) room' H3 hok (by omega) hroom (o.trans (.of e3)) (x'.ex e3) (W'.ex e3) (.lst nF (e3 _ _ hF') (dqa_to (fun _ h => h.1) (fun a u n ha => e3 _ _ ha) _ _ hd))
theorem dq_later {p wd : Addr} {H Hk H' H'' : Hp} {v : V} {d : PyData} (hp : ∃ u, Hk p = some u) (hw : ∃ u, Hk wd = some u) (o0 : Oth2 p wd H Hk) (o : Oth2 p wd H' H'') (x : Dq (New Hk) H' v d) : Dq (New H) H'' v d :=
  dq_to (fun _ n => new_back2 o0 hp hw n) (fun a u n ha => o _ _ (new_ne n hp) (new_ne n hw) ha) _ _ x
theorem new_later {p wd : Addr} {H Hk : Hp} {a : Addr} (hp : ∃ u, Hk p = some u) (hw : ∃ u, Hk wd = some u) (o0 : Oth2 p wd H Hk) (n : Hk a = none) : New H a := new_back2 o0 hp hw n
theorem ok_statement {f : Addr} {fd : FuncData} {k t : Nat} (F : Fun K "_law_statement" "_law_statement" s_law_statement f fd) (C_law_draw : Cal P w K mg base 1 "_law_draw" spDraw []) (C_law_row : Cal P w K mg base 2 "_law_row" spRow []) (C_law_command : Cal P w K mg base 3 "_law_command" spCmd [])
    (C_law_some_cells : Cal P w K mg base 2 "_law_some_cells" spCells []) (C_law_block : Cal P w K mg base k "_law_block" (spBlk (t + 1)) []) (hk : 3 ≤ k) : FnOk P w K mg base CX0 (k + 1) f fd ["pool", "world", "tier"] (spStmt t) := by
  have sc := sc_law_statement
  refine F.ok sc (fun vs H Q E h => ?_) (fun cdv A outer s H vs Q E hr h => ?_)
  · obtain ⟨p, q0, wd, c, m, room, rfl, _⟩ := h
    rfl
  · obtain ⟨p, q0, wd, c, m, room, rfl, ht, c1, c3, m1, m3, x, W, q⟩ := h
    refine ⟨_, (pss_cons (ps_set (i := 3) sc.nd rfl (by first | exact Or.inl rfl | exact Or.inr rfl) (pe_c C_law_draw hr (by omega) (by rfl) (pa_cons (pv 0) (pa_cons pe_int pa_nil))))
      (pss_cons (ps_set (i := 4) sc.nd rfl (by first | exact Or.inl rfl | exact Or.inr rfl) (pe_ix ix_list (pv 1) pe_int (fun _ _ => rfl)))
      (pss_cons (ps_if (pt_cmpR op_eq (pv 3) pe_int (nomark _))
      (pss_one (ps_ret (pe_tup (pa_cons pe_str (pa_cons (pe_c C_law_draw hr (by omega) (by rfl) (pa_cons (pv 0) (pa_cons pe_int pa_nil))) pa_nil)))))
      pss_nil)
      (pss_cons (ps_if (PW.pt (pw_or (pt_cmpR op_lt (pv 3) pe_int (nomark _)) (pw_or1 (pt_cmpR op_gt (pv 2) pe_int (nomark _)))))
      (pss_one (ps_ret (pe_c C_law_command hr (by omega) (by rfl) (pa_cons (pv 0) (pa_cons (pv 4) pa_nil)))))
      pss_nil)
      (pss_cons (ps_if (pt_cmpR op_eq (pv 3) pe_int (nomark _))
      (pss_cons (ps_set (i := 8) sc.nd rfl (by first | exact Or.inl rfl | exact Or.inr rfl) (pe_c C_law_some_cells hr (by omega) (by rfl) (pa_cons (pv 0) (pa_cons (pv 4) pa_nil))))
      (pss_one (ps_ret (pe_tup (pa_cons pe_str (pa_cons (pv 8) (pa_cons (pe_c C_law_block hr (by omega) (by rfl) (pa_cons (pv 0) (pa_cons (pv 1) (pa_cons (pe_op op_add (pv 2) pe_int) (pa_cons pe_int pa_nil))))) pa_nil)))))))
      pss_nil)
      (pss_cons (ps_if (pt_cmpR op_eq (pv 3) pe_int (nomark _))
      (pss_cons (ps_set (i := 7) sc.nd rfl (by first | exact Or.inl rfl | exact Or.inr rfl) (pe_c C_law_block hr (by omega) (by rfl) (pa_cons (pv 0) (pa_cons (pv 1) (pa_cons (pe_op op_add (pv 2) pe_int) (pa_cons pe_int pa_nil))))))
      (pss_one (ps_ret (pe_tup (pa_cons pe_str (pa_cons (pv 7) (pa_cons (pe_c C_law_block hr (by omega) (by rfl) (pa_cons (pv 0) (pa_cons (pv 1) (pa_cons (pe_op op_add (pv 2) pe_int) (pa_cons pe_int pa_nil))))) pa_nil)))))))
      pss_nil)
      (pss_cons (ps_if (pt_cmpR op_eq (pv 3) pe_int (nomark _))
      (pss_one (ps_ret (pe_tup (pa_cons pe_str (pa_cons (pe_c C_law_block hr (by omega) (by rfl) (pa_cons (pv 0) (pa_cons (pv 1) (pa_cons (pe_op op_add (pv 2) pe_int) (pa_cons pe_int pa_nil))))) pa_nil)))))
      pss_nil)
      (pss_cons (ps_set (i := 5) sc.nd rfl (by first | exact Or.inl rfl | exact Or.inr rfl) (pe_c C_law_draw hr (by omega) (by rfl) (pa_cons (pv 0) (pa_cons (pe_ix ix_list (pv 1) pe_int (fun _ _ => rfl)) pa_nil))))
      (pss_cons (ps_set (i := 6) sc.nd rfl (by first | exact Or.inl rfl | exact Or.inr rfl) (pe_c C_law_row hr (by omega) (by rfl) (pa_cons (pv 0) (pa_cons (pv 4) pa_nil))))
      (pss_cons (ps_set (i := 7) sc.nd rfl (by first | exact Or.inl rfl | exact Or.inr rfl) (pe_c C_law_block hr (by omega) (by rfl) (pa_cons (pv 0) (pa_cons (pv 1) (pa_cons (pe_op op_add (pv 2) pe_int) (pa_cons pe_int pa_nil))))))
      (pss_one (ps_ret (pe_tup (pa_cons pe_str (pa_cons (pv 5) (pa_cons (pv 6) (pa_cons (pe_lst (pa_cons (pv 7) (pa_cons (pe_c C_law_block hr (by omega) (by rfl) (pa_cons (pv 0) (pa_cons (pv 1) (pa_cons (pe_op op_add (pv 2) pe_int) (pa_cons pe_int pa_nil))))) pa_nil))) pa_nil))))))))))))))))), ?_⟩
    refine q_run ?_
    refine ⟨.ref p, rfl, p, q0, 10, rfl, by decide, by decide, x, fun kind H1 k0 k10 o1 x1 => ?_⟩
    have W1 := W.one x o1
    refine q_asg (ev_w (ev_var rfl) W1).2.1 fun H2 e2 => ?_
    have x2 := x1.ex e2
    have W2 := W1.ex e2
    have o2 : Oth2 p wd H H2 := (Oth2.one o1).trans (.of e2)
    -- end
    refine q_when (et_test (ev_op (ev_var rfl) ev_c (rv_eq rfl))) (fun _ H3 e3 => ?_) (fun hk4 H3 e3 => ?_)
    · have x3 := x2.ex e3
      have W3 := W2.ex e3
      refine ⟨.ref p, rfl, p, q0, 2, rfl, by decide, by decide, x3, fun z H4 z0 z1 o4 x4 => ⟨by show 2 ≤ sizeLine; decide, fun T nT => ?_⟩⟩
      have o34 : Oth2 p wd H H4 := (o2.trans (.of e3)).trans (.one o4)
      have W4 := W3.one x3 o4
      obtain ⟨zz, rfl⟩ : ∃ zz : Nat, z = (zz : Int) := ⟨z.toNat, by omega⟩
      refine q (.fin zz) _ room _ (by rw [okS]; omega) (by rw [cnt]) (o34.trans (.of (Ex.new nT))) (x4.ex (Ex.new nT)) (W4.ex (Ex.new nT)) ?_
      rw [toD]
      exact .tup (new_later x4.isP (pool_isW W4) o34 nT) upd_same (.cons (.str _) (.cons (.int _) .nil))
    have x3 := x2.ex e3
    have W3 := W2.ex e3
    have o3 := o2.trans (.of e3)
    -- a command
    refine q_when (et_or (et_test (ev_op (ev_var rfl) ev_c rv_I0)) fun _ => et_test (ev_op (ev_var rfl) ev_c rv_I0)) (fun _ H4 e4 => ?_) (fun hkt H4 e4 => ?_)
    · have x4 := x3.ex e4
      have W4 := W3.ex e4
      have o4 := o3.trans (.of e4)
      refine ⟨.ref p, rfl, .int (c : Int), rfl, p, q0, c, rfl, c1, c3, x4, fun s v H5 hs o5 x5 dq => ?_⟩
      exact q s v room H5 (isCmd_ok hs).1 (by rw [(isCmd_ok (m := m) (lv := t) hs).2]) (o4.trans (.one o5)) x5 (W4.one x4 o5) (dq_to (fun a n => new_later x4.isP (pool_isW W4) o4 n) (fun _ _ _ h => h) _ _ dq)
    have x4 := x3.ex e4
    have W4 := W3.ex e4
    have o4 := o3.trans (.of e4)
    have ht2 : t ≤ 2 := by
      have := (Bool.or_eq_false_iff.mp hkt).2
      have := of_decide_eq_false this
      omega
    have ht3 : t + 1 ≤ 3 := by omega
    have lt3 : t < 3 := by omega
    -- keep
    refine q_when (et_test (ev_op (ev_var rfl) ev_c (rv_eq rfl))) (fun _ H5 e5 => ?_) (fun hk5 H5 e5 => ?_)
    · have x5 := x4.ex e5
      have W5 := W4.ex e5
      have o5 := o4.trans (.of e5)
      refine q_run ?_
      refine ⟨.ref p, rfl, .int (c : Int), rfl, p, q0, c, rfl, c3, x5, fun cs L H6 hcs nL o6 x6 hL => ?_⟩
      have W6 := W5.one x5 o6
      have o56 := o5.trans (.one o6)
      have nL0 : New H L := new_later x5.isP (pool_isW W5) o5 nL
      refine ⟨.ref L, rfl, .ref p, rfl, .ref wd, rfl, .int (t : Int), rfl, (t : Int), 1, rfl, rfl, p, q0, wd, c, m, room, 3, rfl, ht3, by omega, c1, c3, m1, m3, x6, W6, fun b v r7 H7 hb hlb hc o7 x7 W7 dq => ⟨by show 3 ≤ sizeLine; decide, fun T nT => ?_⟩⟩
      have o8 := o56.trans o7
      have eT := Ex.new (o := .tup [.str "keep", .ref L, v]) nT
      refine q (.keep cs b) _ r7 _ (by rw [okS]; exact ⟨lt3, hcs, by omega, hb⟩) (by rw [cnt]; omega) (o8.trans (.of eT)) (x7.ex eT) (W7.ex eT) ?_
      rw [toD]
      exact .tup (new_later x7.isP (pool_isW W7) o8 nT) upd_same (.cons (.str _) (.cons (dq_LI nL0 (eT _ _ (o7 _ _ (new_ne nL0 x.isP) (new_ne nL0 (pool_isW W)) hL))) (.cons (dq_later x6.isP (pool_isW W6) o56 (.of eT) dq) .nil)))
    have x5 := x4.ex e5
    have W5 := W4.ex e5
    have o5 := o4.trans (.of e5)
    -- either
    refine q_when (et_test (ev_op (ev_var rfl) ev_c (rv_eq rfl))) (fun _ H6 e6 => ?_) (fun hk6 H6 e6 => ?_)
    · have x6 := x5.ex e6
      have W6 := W5.ex e6
      have o6 := o5.trans (.of e6)
      refine q_run ?_
      refine ⟨.ref p, rfl, .ref wd, rfl, .int (t : Int), rfl, (t : Int), 1, rfl, rfl, p, q0, wd, c, m, room, 3, rfl, ht3, by omega, c1, c3, m1, m3, x6, W6, fun a va r7 H7 ha hla hca o7 x7 W7 dqa => ?_⟩
      have o67 := o6.trans o7
      refine ⟨va, rfl, .ref p, rfl, .ref wd, rfl, .int (t : Int), rfl, (t : Int), 1, rfl, rfl, p, q0, wd, c, m, r7, 3, rfl, ht3, by omega, c1, c3, m1, m3, x7, W7, fun b vb r8 H8 hb hlb hcb o8 x8 W8 dqb => ⟨by show 3 ≤ sizeLine; decide, fun T nT => ?_⟩⟩
      have o68 := o67.trans o8
      have eT := Ex.new (o := .tup [.str "either", va, vb]) nT
      refine q (.either a b) _ r8 _ (by rw [okS]; exact ⟨lt3, by omega, ha, by omega, hb⟩) (by rw [cnt]; omega) (o68.trans (.of eT)) (x8.ex eT) (W8.ex eT) ?_
      rw [toD]
      exact .tup (new_later x8.isP (pool_isW W8) o68 nT) upd_same (.cons (.str _) (.cons (dq_later x6.isP (pool_isW W6) o6 (o8.trans (.of eT)) dqa) (.cons (dq_later x7.isP (pool_isW W7) o67 (.of eT) dqb) .nil)))
    have x6 := x5.ex e6
    have W6 := W5.ex e6
    have o6 := o5.trans (.of e6)
    -- again
    refine q_when (et_test (ev_op (ev_var rfl) ev_c (rv_eq rfl))) (fun _ H7 e7 => ?_) (fun hk7 H7 e7 => ?_)
    · have x7 := x6.ex e7
      have W7 := W6.ex e7
      have o7 := o6.trans (.of e7)
      refine ⟨.ref p, rfl, .ref wd, rfl, .int (t : Int), rfl, (t : Int), 1, rfl, rfl, p, q0, wd, c, m, room, 3, rfl, ht3, by omega, c1, c3, m1, m3, x7, W7, fun b v r8 H8 hb hlb hc o8 x8 W8 dq => ⟨by show 2 ≤ sizeLine; decide, fun T nT => ?_⟩⟩
      have o78 := o7.trans o8
      have eT := Ex.new (o := .tup [.str "again", v]) nT
      refine q (.again b) _ r8 _ (by rw [okS]; exact ⟨lt3, by omega, hb⟩) (by rw [cnt]; omega) (o78.trans (.of eT)) (x8.ex eT) (W8.ex eT) ?_
      rw [toD]
      exact .tup (new_later x8.isP (pool_isW W8) o78 nT) upd_same (.cons (.str _) (.cons (dq_later x7.isP (pool_isW W7) o7 (.of eT) dq) .nil))
    have x7 := x6.ex e7
    have W7 := W6.ex e7
    have o7 := o6.trans (.of e7)
    -- call
    refine q_run ?_
    refine ⟨.ref p, rfl, .ref wd, rfl, wd, _, 1, .int (m : Int), rfl, rfl, sq_of W7.hw, atI_nat (j := 1) rfl, p, q0, (m : Int), rfl, by omega, Nat.lt_of_le_of_lt (show (m : Int).natAbs ≤ 4 by omega) (by decide), x7, fun pr H8 p0 pm o8 x8 => ?_⟩
    have W8 := W7.one x7 o8
    have o78 := o7.trans (.one o8)
    refine q_run ?_
    refine ⟨.ref p, rfl, .int (c : Int), rfl, p, q0, c, rfl, c3, x8, fun r L H9 hrr nL o9 x9 hL => ?_⟩
    have W9 := W8.one x8 o9
    have o79 := o78.trans (.one o9)
    have nL0 : New H L := new_later x8.isP (pool_isW W8) o78 nL
    refine q_run ?_
    refine ⟨.ref p, rfl, .ref wd, rfl, .int (t : Int), rfl, (t : Int), 1, rfl, rfl, p, q0, wd, c, m, room, 2, rfl, ht3, by omega, c1, c3, m1, m3, x9, W9, fun a va r10 H10 ha hla hca o10 x10 W10 dqa => ?_⟩
    have o710 := o79.trans o10
    obtain ⟨pp, rfl⟩ : ∃ pp : Nat, pr = (pp : Int) := ⟨pr.toNat, by omega⟩
    refine ⟨.int (pp : Int), rfl, .ref L, rfl, va, rfl, .ref p, rfl, .ref wd, rfl, .int (t : Int), rfl, (t : Int), 1, rfl, rfl, p, q0, wd, c, m, r10, 2, rfl, ht3, by omega, c1, c3, m1, m3, x10, W10, fun b vb r11 H11 hb hlb hcb o11 x11 W11 dqb => ⟨by show 2 ≤ sizeLine; decide, fun B nB => ⟨by show 4 ≤ sizeLine; decide, fun T nT => ?_⟩⟩⟩
    have o711 := o710.trans o11
    have eB := Ex.new (o := .lst [va, vb]) nB
    have eT := Ex.new (o := .tup [.str "call", .int (pp : Int), .ref L, .ref B]) nT
    have eBT := eB.trans eT
    have nB0 : New H B := new_later x11.isP (pool_isW W11) o711 nB
    refine q (.call pp r a b) _ r11 _ (by rw [okS]; exact ⟨lt3, by omega, hrr, by omega, ha, by omega, hb⟩) (by rw [cnt]; omega) (o711.trans (.of eBT)) (x11.ex eBT) (W11.ex eBT) ?_
    rw [toD]
    refine .tup (new_later (x11.ex eB).isP (pool_isW (W11.ex eB)) (o711.trans (.of eB)) nT) upd_same (.cons (.str _) (.cons (.int _) (.cons (dq_LI nL0 (eBT _ _ (o11 _ _ (new_ne nL0 x.isP) (new_ne nL0 (pool_isW W)) (o10 _ _ (new_ne nL0 x.isP) (new_ne nL0 (pool_isW W)) hL)))) (.cons ?_ .nil))))
    exact .lst nB0 (eT _ _ upd_same) (.cons (dq_later x9.isP (pool_isW W9) o79 (o11.trans (.of eBT)) dqa) (.cons (dq_later x10.isP (pool_isW W10) o710 (.of eBT) dqb) .nil))
end
section
variable {P : Program} {w : World} {K : PySem.W.Frag} {mg : Str → Option Value} {base : Heap}
/-- statements and blocks at every level -/
theorem gen_levels {fS fB : Addr} {fdS fdB : FuncData} (FS : Fun K "_law_statement" "_law_statement" s_law_statement fS fdS) (FB : Fun K "_law_block" "_law_block" s_law_block fB fdB) (gS : mg "_law_statement" = some (.ref fS)) (gB : mg "_law_block" = some (.ref fB))
    (bS : Binds K fdS ["pool", "world", "tier"] []) (bB : Binds K fdB ["pool", "world", "tier", "most"] []) (z_range : mg "range" = none) (C_law_draw : Cal P w K mg base 1 "_law_draw" spDraw []) (C_law_row : Cal P w K mg base 2 "_law_row" spRow []) (C_law_command : Cal P w K mg base 3 "_law_command" spCmd [])
    (C_law_some_cells : Cal P w K mg base 2 "_law_some_cells" spCells []) : ∀ j t, j + t = 4 → Cal P w K mg base (3 + 2 * j) "_law_block" (spBlk t) [] ∧ ∀ t', t' + 1 = t → Cal P w K mg base (3 + 2 * j + 1) "_law_statement" (spStmt t') []
  | 0, t, h => by
    have e : t = 4 := by omega
    subst e
    have B : Cal P w K mg base (3 + 2 * 0) "_law_block" (spBlk 4) [] := ⟨fB, fdB, ["pool", "world", "tier", "most"], [], ⟨fun _ _ _ _ h => by obtain ⟨_, _, _, _, _, _, _, _, h, _⟩ := h; omega, fun _ _ _ _ _ _ _ _ _ _ _ _ _ h => by obtain ⟨_, _, _, _, _, _, _, _, h, _⟩ := h; omega⟩, gB, FB.kp, bB, .nil⟩
    refine ⟨B, fun t' e => ?_⟩
    have : t' = 3 := by omega
    subst this
    exact ⟨fS, fdS, _, [], ok_statement FS C_law_draw C_law_row C_law_command C_law_some_cells B (by decide), gS, FS.kp, bS, .nil⟩
  | j + 1, t, h => by
    obtain ⟨_, hS⟩ := gen_levels FS FB gS gB bS bB z_range C_law_draw C_law_row C_law_command C_law_some_cells j (t + 1) (by omega)
    have S := hS t rfl
    have B : Cal P w K mg base (3 + 2 * (j + 1)) "_law_block" (spBlk t) [] := ⟨fB, fdB, _, [], ok_block (k := 3 + 2 * j + 1) FB z_range C_law_draw S (by omega), gB, FB.kp, bB, .nil⟩
    refine ⟨B, fun t' e => ?_⟩
    subst e
    exact ⟨fS, fdS, _, [], ok_statement FS C_law_draw C_law_row C_law_command C_law_some_cells B (by omega), gS, FS.kp, bS, .nil⟩
/-- the body of a procedure -/
def okB (c m : Nat) (b : List Stm) : Prop := okL c m b 0 ∧ b.length ≤ 8 ∧ cntL b ≤ 12
def bD (b : List Stm) : PyData := .list (toDs b)
def spBody : Sp := fun vs H Q _ => ∃ (p q : Addr) (c m : Nat), vs = [.ref p, .int (c : Int), .int (m : Int), .int 12, .int 0] ∧ 1 ≤ c ∧ c ≤ 3 ∧ 1 ≤ m ∧ m ≤ 3 ∧ Pool H p q ∧
  ∀ (b : List Stm) (v : V) (H' : Hp), okB c m b → b.length ≤ 4 → Oth p H H' → Pool H' p q → Dq (New H) H' v (bD b) → Q v H'
theorem ok_body {f : Addr} {fd : FuncData} {k : Nat} (F : Fun K "_law_body" "_law_body" s_law_body f fd) (C_law_statement : Cal P w K mg base 10 "_law_statement" (spStmt 0) []) (C_law_block : Cal P w K mg base 11 "_law_block" (spBlk 0) []) (hk : 11 ≤ k) :
    FnOk P w K mg base CX0 (k + 1) f fd ["pool", "cells", "many", "room", "tier"] spBody := by
  have sc := sc_law_body
  refine F.ok sc (fun vs H Q E h => ?_) (fun cdv A outer s H vs Q E hr h => ?_)
  · obtain ⟨p, q0, c, m, rfl, _⟩ := h
    rfl
  · obtain ⟨p, q0, c, m, rfl, c1, c3, m1, m3, x, q⟩ := h
    refine ⟨_, (pss_cons (ps_set (i := 5) sc.nd rfl (by first | exact Or.inl rfl | exact Or.inr rfl) (pe_lst (pa_cons (pv 1) (pa_cons (pv 2) (pa_cons (pe_op op_sub (pv 3) pe_int) pa_nil)))))
      (pss_cons (ps_set (i := 6) sc.nd rfl (by first | exact Or.inl rfl | exact Or.inr rfl) (pe_lst (pa_cons (pe_c C_law_statement hr (by omega) (by rfl) (pa_cons (pv 0) (pa_cons (pv 5) (pa_cons (pv 4) pa_nil)))) pa_nil)))
      (pss_one (ps_ret (pe_op op_cat (pv 6) (pe_c C_law_block hr (by omega) (by rfl) (pa_cons (pv 0) (pa_cons (pv 5) (pa_cons (pv 4) (pa_cons pe_int pa_nil)))))))))), ?_⟩
    refine q_asgL (el_lst (ea_cons (ev_var rfl) (ea_cons (ev_var rfl) (ea_cons (ev_op (ev_var rfl) ev_c rv_I0) ea_nil))) (by show 3 ≤ 100000; decide)) fun wd H1 nw e1 hw => ?_
    have x1 := x.ex e1
    have W1 : World3 H1 wd q0 c m 11 := ⟨hw, new_ne nw x.isQ⟩
    have wp : wd ≠ p := new_ne nw x.isP
    have o1 : Oth2 p wd H H1 := .of e1
    -- body = [statement]
    refine q_run ?_
    refine ⟨.ref p, rfl, .ref wd, rfl, .int 0, rfl, p, q0, wd, c, m, 11, rfl, by decide, c1, c3, m1, m3, x1, W1, fun s v r2 H2 oks hc o2 x2 W2 dq => ⟨by show 1 ≤ sizeLine; decide, fun B nB => ?_⟩⟩
    have o12 := o1.trans o2
    have eB := Ex.new (o := .lst [v]) nB
    have x3 := x2.ex eB
    have W3 := W2.ex eB
    have o13 := o12.trans (.of eB)
    have nB0 : New H B := new_later x2.isP (pool_isW W2) o12 nB
    refine ⟨.ref B, rfl, .ref p, rfl, .ref wd, rfl, .int 0, rfl, p, q0, wd, c, m, r2, 3, rfl, by decide, by decide, c1, c3, m1, m3, x3, W3, fun b vb r4 H4 hb hlb hcb o4 x4 W4 dqb => ?_⟩
    have hB4 := o4 _ _ (new_ne nB0 x.isP) (new_ne nB ⟨_, W2.hw⟩) upd_same
    have dq4 : Dq (New H) H4 v (toD s) := dq_later x1.isP (pool_isW W1) o1 ((Oth2.of eB).trans o4) dq
    cases dqb with
    | @lst L xs ds nL hL hds =>
      have lxs : xs.length = b.length := by rw [dqa_len hds, toDs_len]
      refine ⟨B, L, [v], xs, rfl, rfl, hB4, hL, ?_, fun R nR => ?_⟩
      · have := small1000 (n := [v].length + xs.length) (by rw [lxs, List.length_singleton]; omega)
        exact Nat.le_of_lt this
      · have eR := Ex.new (o := .lst ([v] ++ xs)) nR
        have o14 := o13.trans o4
        have nR0 : New H R := new_later x4.isP (pool_isW W4) o14 nR
        refine q (s :: b) _ _ ⟨by rw [okL]; exact ⟨oks, hb⟩, by rw [List.length_cons]; omega, by rw [cntL]; omega⟩ (by rw [List.length_cons]; omega) (fun a u na ha => ?_) (x4.ex eR) ?_
        · exact eR _ _ (o14 _ _ na (ne_of_none ha nw) ha)
        · rw [bD, toDs]
          exact .lst nR0 upd_same (.cons (dq_to (fun _ h => h) (fun a u _ ha => eR _ _ ha) _ _ dq4) (dqa_to (fun a n => new_later x3.isP (pool_isW W3) o13 n) (fun a u _ ha => eR _ _ ha) _ _ hds))
def toB (bs : List (List Stm)) : PyData := .list (bs.map bD)
def spBodies : Sp := fun vs H Q _ => ∃ (p q : Addr) (c m : Nat), vs = [.ref p, .int (c : Int), .int (m : Int), .int 12] ∧ 1 ≤ c ∧ c ≤ 3 ∧ 1 ≤ m ∧ m ≤ 3 ∧ Pool H p q ∧
  ∀ (bs : List (List Stm)) (B : Addr) (xs : List V) (H' : Hp), bs.length = m → (∀ b ∈ bs, okB c m b) → Oth p H H' → Pool H' p q → New H B → H' B = some (.lst xs) → DqAll (fun a => New H a ∧ a ≠ B) H' xs (bs.map bD) → Q (.ref B) H'
theorem ok_bodies {f : Addr} {fd : FuncData} {k : Nat} (F : Fun K "_law_bodies" "_law_bodies" s_law_bodies f fd) (z_range : mg "range" = none) (C_law_body : Cal P w K mg base 12 "_law_body" spBody []) (hk : 12 ≤ k) :
    FnOk P w K mg base CX0 (k + 1) f fd ["pool", "cells", "many", "room"] spBodies := by
  have sc := sc_law_bodies
  refine F.ok sc (fun vs H Q E h => ?_) (fun cdv A outer s H vs Q E hr h => ?_)
  · obtain ⟨p, q0, c, m, rfl, _⟩ := h
    rfl
  · obtain ⟨p, q0, c, m, rfl, c1, c3, m1, m3, x, q⟩ := h
    refine ⟨_, (pss_one (ps_ret (pe_lc (own := [("k", 4)]) (by rfl) sc.nd (pi_range1 (by rfl) z_range (pa_cons (pv 2) pa_nil)) (blkOk_by (own := [("k", 4)]) (N := ["pool", "cells", "many", "room", "k"]) (sc := defScope s_law_bodies) (by decide +kernel)) (fun _ _ _ _ _ => (pg_name (i := 4) sc.nd rfl (by first | exact Or.inl rfl | exact Or.inr rfl))) (fun _ _ _ _ _ => pts_nil) (fun _ _ _ _ _ => (pe_c C_law_body hr (by omega) (by rfl) (pa_cons (pv 0) (pa_cons (pv 1) (pa_cons (pv 2) (pa_cons (pv 3) (pa_cons pe_int pa_nil)))))))))), ?_⟩
    refine ⟨.int (m : Int), rfl, (m : Int), rfl, by omega, by omega, fun D nD => ?_⟩
    have Dp1 : D ≠ p := new_ne nD x.isP
    have Dq1 : D ≠ q0 := new_ne nD x.isQ
    refine lc_range (lo := 0) (n := m) (fun i H' => ∃ (bs : List (List Stm)) (xs : List V), bs.length = i ∧ (∀ b ∈ bs, okB c m b) ∧ Oth p H H' ∧ Pool H' p q0 ∧ H' D = some (.lst xs) ∧ DqAll (fun a => New H a ∧ a ≠ D) H' xs (bs.map bD))
      ⟨[], [], rfl, fun _ h => (nomatch h), .of (Ex.new nD), x.ex (Ex.new nD), upd_same, .nil⟩ (fun i H' hi hP => ?_) (fun H' hP => ?_)
    · obtain ⟨bs, xs, rfl, hok, o, x', hD, hd⟩ := hP
      have lxs : xs.length = bs.length := by rw [dqa_len hd, List.length_map]
      show wipe ((wipe _ _).set 4 (some (.int ((0 : Int) + (bs.length : Int))))) _ = wipe _ _ ∧ _
      refine ⟨rfl, .ref p, rfl, .int (c : Int), rfl, .int (m : Int), rfl, .int 12, rfl, p, q0, c, m, rfl, c1, c3, m1, m3, x', fun b v H2 hb hlb o2 x2 dq => ⟨xs, o2 _ _ Dp1 hD, sz_lt (by omega), bs ++ [b], xs ++ [v], by simp, fun y hy => ?_, fun a u na ha => ?_, x2.upd Dp1 Dq1, upd_same, ?_⟩⟩
      · rcases List.mem_append.mp hy with hy | hy
        · exact hok y hy
        · rw [List.mem_singleton.mp hy]; exact hb
      · rw [upd_ne (ne_of_none ha nD)]
        exact o2 _ _ na (o _ _ na ha)
      · rw [List.map_append]
        refine dqa_app (dqa_to (fun _ h => h) (fun a u n ha => ?_) _ _ hd) (.cons (dq_to (fun a n => ⟨new_back o x'.isP n, new_ne n ⟨_, hD⟩⟩) (fun a u n ha => by rw [upd_ne (new_ne n ⟨_, hD⟩)]; exact ha) _ _ dq) .nil)
        rw [upd_ne n.2]
        exact o2 _ _ (new_ne n.1 x.isP) ha
    · obtain ⟨bs, xs, hl, hok, o, x', hD, hd⟩ := hP
      exact q bs D xs H' hl hok o x' nD hD hd
end
/-! ### copies -/
section
variable {K : PySem.W.Frag} {σ : L2.St} {H : Hp} {te tl : TE}
theorem cb_1 {r : List V → Hp → VK → Prop} {Q : VK} (h : te σ H fun x H1 => r [x] H1 Q) : tCB r (tCons te tNil) σ H Q := h
/-- te gives a copy of the item -/
def CpAt (te : TE) (σ : L2.St) (H : Hp) (d : PyData) : Prop := ∀ H1, Ex H H1 → ∀ Q : VK, (∀ v' H2, Ex H1 H2 → Dq (New H1) H2 v' d → Q v' H2) → te σ H1 Q
def CpOut (H1 : Hp) (ds : List PyData) (Q : VK) : Prop := ∀ D ys H2, H1 D = none → Ex H1 H2 → H2 D = some (.lst ys) → DqAll (fun a => New H1 a ∧ a ≠ D) H2 ys ds → Q (.ref D) H2
theorem new_ex {H H1 : Hp} {a : Addr} (e : Ex H H1) (h : New H1 a) : New H a := fresh_back e h
theorem dqa_at {N : Addr → Prop} : ∀ {vs : List V} {ds : List PyData} {i : Nat} {v : V}, DqAll N H vs ds → vs[i]? = some v → ∃ d, ds[i]? = some d ∧ Dq N H v d
  | _, _, i, v, .nil, h => by simp at h
  | _, _, 0, v, .cons a _, h => ⟨_, rfl, by have := Option.some.inj h; subst this; exact a⟩
  | _, _, i + 1, v, .cons _ b, h => by
    obtain ⟨d, h1, h2⟩ := dqa_at (i := i) b (by simpa using h)
    exact ⟨d, by simpa using h1, h2⟩
theorem dpa_at2 : ∀ {vs : List V} {ds : List PyData} {i : Nat} {v : V}, DpAll K H vs ds → vs[i]? = some v → ∃ d, ds[i]? = some d ∧ Dp K H v d
  | _, _, i, v, .nil, h => by simp at h
  | _, _, 0, v, .cons a _, h => ⟨_, rfl, by have := Option.some.inj h; subst this; exact a⟩
  | _, _, i + 1, v, .cons _ b, h => by
    obtain ⟨d, h1, h2⟩ := dpa_at2 (i := i) b (by simpa using h)
    exact ⟨d, by simpa using h1, h2⟩
/-- one turn -/
theorem copy_turn {H1 H' : Hp} {D : Addr} {ys : List V} {ds : List PyData} {i : Nat} {d : PyData} {σ' : L2.St} {Nx : Hp → Prop} (hD : H1 D = none) (e : Ex H1 H') (hD' : H' D = some (.lst ys)) (hd : DqAll (fun a => New H1 a ∧ a ≠ D) H' ys (ds.take i)) (hl : ds.length ≤ 10000) (hi : ds[i]? = some d)
    (hc : CpAt te σ' H' d) (k : ∀ ys2 H2, Ex H1 H2 → H2 D = some (.lst ys2) → DqAll (fun a => New H1 a ∧ a ≠ D) H2 ys2 (ds.take (i + 1)) → Nx H2) :
    te σ' H' fun y H4 => ∃ acc, H4 D = some (.lst acc) ∧ acc.length < sizeLine ∧ Nx (upd H4 D (.lst (acc ++ [y]))) := by
  refine hc H' (Ex.refl _) _ fun v' H2 e2 dq => ⟨ys, e2 _ _ hD', ?_, k (ys ++ [v']) _ ((e.trans e2).mut hD) upd_same ?_⟩
  · rw [dqa_len hd, List.length_take]; exact sz_lt (by omega)
  · rw [List.take_add_one, hi]
    refine dqa_app (dqa_to (fun _ h => h) (fun a u n ha => by rw [upd_ne n.2]; exact e2 _ _ ha) _ _ hd) (.cons (dq_to (fun a n => ⟨new_ex e n, new_ne n ⟨_, hD'⟩⟩) (fun a u n ha => by rw [upd_ne (new_ne n ⟨_, hD'⟩)]; exact ha) _ _ dq) .nil)
theorem lc_copyL {a : Addr} {xs : List V} {ds : List PyData} {j : Nat} {vs : List Nat} (h : Ev tl σ H (.ref a)) (hs : SqL K H a xs) (hlen : xs.length = ds.length) (hl : ds.length ≤ 10000) (hw : ∀ x, wipe ((wipe σ vs).set j (some x)) vs = wipe σ vs)
    (hc : ∀ (i : Nat) (v : V) (d : PyData), xs[i]? = some v → ds[i]? = some d → CpAt te ((wipe σ vs).set j (some v)) H d) {Q : VK} (k : CpOut H ds Q) : tLc (iList K tl) (gName j) tYes te vs σ H Q :=
  h H (Ex.refl H) _ fun H1 e1 => ⟨a, rfl, ⟨xs, ex_l e1 hs⟩, fun D hD =>
    lc_list (xs := xs) (fun i H' => ∃ ys, Ex H1 H' ∧ H' D = some (.lst ys) ∧ DqAll (fun a => New H1 a ∧ a ≠ D) H' ys (ds.take i)) ⟨[], Ex.new hD, upd_same, .nil⟩ (fun i H' _ p => by
        obtain ⟨ys, e, _⟩ := p
        exact ex_l (e1.trans e) hs) (fun i x H' hi p => ⟨hw x, by
        obtain ⟨ys, e, hd, dq⟩ := p
        have hi2 : i < ds.length := by have := (List.getElem?_eq_some_iff.mp hi).1; omega
        have hdi := List.getElem?_eq_getElem hi2
        show te _ _ _
        exact copy_turn (Nx := fun H' => ∃ ys, Ex H1 H' ∧ H' D = some (.lst ys) ∧ DqAll (fun a => New H1 a ∧ a ≠ D) H' ys (ds.take (i + 1))) hD e hd dq hl hdi (fun H2 e2 => hc i x _ hi hdi H2 ((e1.trans e).trans e2)) fun ys2 H2 a b c => ⟨ys2, a, b, c⟩⟩)
      (fun H' p => by
        obtain ⟨ys, e, hd, dq⟩ := p
        rw [List.take_of_length_le (by omega)] at dq
        exact k D ys H' (fresh_back e1 hD) (e1.trans e) hd (dqa_to (fun a n => ⟨new_ex e1 n.1, n.2⟩) (fun _ _ _ h => h) _ _ dq))⟩
theorem lc_copyT {a : Addr} {xs : List V} {ds : List PyData} {j : Nat} {vs : List Nat} (h : Ev tl σ H (.ref a)) (hs : SqT K H a xs) (hlen : xs.length = ds.length) (hl : ds.length ≤ 10000) (hw : ∀ x, wipe ((wipe σ vs).set j (some x)) vs = wipe σ vs)
    (hc : ∀ (i : Nat) (v : V) (d : PyData), xs[i]? = some v → ds[i]? = some d → CpAt te ((wipe σ vs).set j (some v)) H d) {Q : VK} (k : CpOut H ds Q) : tLc (iTup K tl) (gName j) tYes te vs σ H Q :=
  h H (Ex.refl H) _ fun H1 e1 => ⟨a, rfl, ⟨xs, ex_t e1 hs⟩, fun D hD =>
    lc_tup (xs := xs) (fun i H' => ∃ ys, Ex H1 H' ∧ H' D = some (.lst ys) ∧ DqAll (fun a => New H1 a ∧ a ≠ D) H' ys (ds.take i)) ⟨[], Ex.new hD, upd_same, .nil⟩ (fun i H' _ p => by
        obtain ⟨ys, e, _⟩ := p
        exact ex_t (e1.trans e) hs) (fun i x H' hi p => ⟨hw x, by
        obtain ⟨ys, e, hd, dq⟩ := p
        have hi2 : i < ds.length := by have := (List.getElem?_eq_some_iff.mp hi).1; omega
        have hdi := List.getElem?_eq_getElem hi2
        show te _ _ _
        exact copy_turn (Nx := fun H' => ∃ ys, Ex H1 H' ∧ H' D = some (.lst ys) ∧ DqAll (fun a => New H1 a ∧ a ≠ D) H' ys (ds.take (i + 1))) hD e hd dq hl hdi (fun H2 e2 => hc i x _ hi hdi H2 ((e1.trans e).trans e2)) fun ys2 H2 a b c => ⟨ys2, a, b, c⟩⟩)
      (fun H' p => by
        obtain ⟨ys, e, hd, dq⟩ := p
        rw [List.take_of_length_le (by omega)] at dq
        exact k D ys H' (fresh_back e1 hD) (e1.trans e) hd (dqa_to (fun a n => ⟨new_ex e1 n.1, n.2⟩) (fun _ _ _ h => h) _ _ dq))⟩
/-- a copy of data at most n - 1 deep -/
def spCopy (K : PySem.W.Frag) (n : Nat) : Sp := fun vs H Q _ => ∃ (v : V) (d : PyData) (m : Nat), vs = [v] ∧ n = m + 1 ∧ Dp K H v d ∧ fit d m = true ∧ ∀ v' H', Ex H H' → Dq (New H) H' v' d → Q v' H'
theorem cp_call {E : XK} {ti : TE} {n m : Nat} {v : V} {d : PyData} (hn : n = m + 1) (h : Ev ti σ H v) (hd : Dp K H v d) (hf : fit d m = true) : CpAt (tCall (spCopy K n) [] E (tCons ti tNil)) σ H d := fun H1 e Q q =>
  h H1 e _ fun H2 e2 => ⟨v, d, m, rfl, hn, dp_ex (e.trans e2) d v hd, hf, fun v' H3 e3 dq => q v' H3 (e2.trans e3) (dq_to (fun a n => new_ex e2 n) (fun _ _ _ h => h) _ _ dq)⟩
theorem flat_dq {v : V} {d : PyData} {N : Addr → Prop} (h : Dp K H v d) (h1 : isa d "list" = false) (h2 : isa d "tuple" = false) : Dq N H v d := by
  rw [isa_list] at h1
  rw [isa_tuple] at h2
  cases h with
  | non => exact .non
  | bl b => exact .bl b
  | int i => exact .int i
  | str x => exact .str x
  | lst _ _ => cases h1
  | tup _ _ => cases h2
end
abbrev scopied : Stmt := topS 7
theorem sccopied : FnScope ["value", "item", "key", "worth"] ["value"] (defScope scopied) := ⟨rfl, rfl, rfl, by decide +kernel, rfl, by decide +kernel, by decide +kernel⟩
section
variable {P : Program} {w : World} {K : PySem.W.Frag} {mg : Str → Option Value} {base : Heap}
theorem isa_list_t {H : Hp} {v : V} {d : PyData} (h : Dp K H v d) (hl : isa d "list" = true) : ∃ a xs ds, v = .ref a ∧ d = .list ds ∧ SqL K H a xs ∧ DpAll K H xs ds := by
  rw [isa_list] at hl
  cases h with
  | lst s a => exact ⟨_, _, _, rfl, rfl, s, a⟩
  | _ => cases hl
theorem isa_tuple_t {H : Hp} {v : V} {d : PyData} (h : Dp K H v d) (hl : isa d "tuple" = true) : ∃ a xs ds, v = .ref a ∧ d = .tuple ds ∧ SqT K H a xs ∧ DpAll K H xs ds := by
  rw [isa_tuple] at hl
  cases h with
  | tup s a => exact ⟨_, _, _, rfl, rfl, s, a⟩
  | _ => cases hl
theorem kd_all : ∀ t ∈ ["NoneType", "bool", "int", "str", "list", "tuple"], kitB t "dict" = some false := by
  decide +kernel
theorem kd_dict {H : Hp} {v : V} {d : PyData} (h : Dp K H v d) : kitB (tyn d) "dict" = some false := by
  refine kd_all _ ?_
  cases h <;> simp [tyn]
theorem copied_step {f : Addr} {fd : FuncData} {n : Nat} (F : Fun K "copied" "copied" scopied f fd) (z_isinstance : mg "isinstance" = none) (z_list : mg "list" = none) (z_tuple : mg "tuple" = none) (z_dict : mg "dict" = none) (Ccopied : Cal P w K mg base n "copied" (spCopy K n) []) :
    FnOk P w K mg base CX0 (n + 1) f fd ["value"] (spCopy K (n + 1)) := by
  have sc := sccopied
  refine F.ok sc (fun vs H Q E h => ?_) (fun cdv A outer s H vs Q E hr h => ?_)
  · obtain ⟨v, d, m, rfl, _⟩ := h
    rfl
  · obtain ⟨v, d, n', rfl, en, hv, hf, q⟩ := h
    obtain rfl : n' = n := by omega
    refine ⟨_, (pss_cons (ps_if (pt_val (pe_callB call_isi (by rfl) z_isinstance (by decide +kernel) (pa_cons (pv 0) (pa_cons (pe_bltn (v := .ty "list") (by rfl) z_list (by decide +kernel) rfl) pa_nil))))
      (pss_one (ps_ret (pe_lc (own := [("item", 1)]) (by rfl) sc.nd (pi_list (pv 0)) (blkOk_by (own := [("item", 1)]) (N := ["value", "item", "key", "worth"]) (sc := defScope scopied) (by decide +kernel)) (fun _ _ _ _ _ => (pg_name (i := 1) sc.nd rfl (by first | exact Or.inl rfl | exact Or.inr rfl))) (fun _ _ _ _ _ => pts_nil) (fun _ _ _ _ _ => (pe_c Ccopied hr (by omega) (by rfl) (pa_cons (pv 1) pa_nil))))))
      pss_nil)
      (pss_cons (ps_if (pt_val (pe_callB call_isi (by rfl) z_isinstance (by decide +kernel) (pa_cons (pv 0) (pa_cons (pe_bltn (v := .ty "tuple") (by rfl) z_tuple (by decide +kernel) rfl) pa_nil))))
      (pss_one (ps_ret (pe_callTy call_tuple_of (by rfl) z_tuple (by decide +kernel) (pa_cons (pe_lc (own := [("item", 1)]) (by rfl) sc.nd (pi_tup (pv 0)) (blkOk_by (own := [("item", 1)]) (N := ["value", "item", "key", "worth"]) (sc := defScope scopied) (by decide +kernel)) (fun _ _ _ _ _ => (pg_name (i := 1) sc.nd rfl (by first | exact Or.inl rfl | exact Or.inr rfl))) (fun _ _ _ _ _ => pts_nil) (fun _ _ _ _ _ => (pe_c Ccopied hr (by omega) (by rfl) (pa_cons (pv 1) pa_nil)))) pa_nil))))
      pss_nil)
      (pss_cons (ps_if (pt_val (pe_callB call_isi (by rfl) z_isinstance (by decide +kernel) (pa_cons (pv 0) (pa_cons (pe_bltn (v := .ty "dict") (by rfl) z_dict (by decide +kernel) rfl) pa_nil))))
      (pss_one ps_never)
      pss_nil)
      (pss_one (ps_ret (pv 0)))))), ?_⟩
    have kd := kitB_isa d
    refine q_when (et_B (ev_isi hv (ev_var rfl) kd.2.2.2.1)) (fun hb H1 e1 => ?_) (fun hb H1 e1 => ?_)
    · obtain ⟨a, xs, ds, rfl, rfl, hs, hx⟩ := isa_list_t hv hb
      obtain ⟨m, em, lx, gx⟩ := fit_list hf
      have hs1 := ex_l e1 hs
      have hx1 := dpa_ex e1 ds _ hx
      have lxs := dpa_len hx1
      refine s_retR (lc_copyL (ev_var rfl) hs1 lxs lx (fun _ => rfl) (fun i v d hv hd => ?_) fun D ys H2 nD e2 hD dq => ?_)
      · obtain ⟨d', hd', p⟩ := dpa_at2 hx1 hv
        have : d' = d := Option.some.inj (hd'.symm.trans hd)
        subst this
        exact cp_call em (ev_var rfl) p (fitAll_mem gx (List.mem_of_getElem? hd))
      · exact q _ _ (e1.trans e2) (.lst (new_ex e1 nD) hD (dqa_to (fun a n => new_ex e1 n.1) (fun _ _ _ h => h) _ _ dq))
    refine q_when (et_B (ev_isi (dp_ex e1 _ _ hv) (ev_var rfl) kd.2.2.2.2)) (fun hc H2 e2 => ?_) (fun hc H2 e2 => ?_)
    · have e12 := e1.trans e2
      obtain ⟨a, xs, ds, rfl, rfl, hs, hx⟩ := isa_tuple_t hv hc
      obtain ⟨m, em, lx, gx⟩ := fit_tuple hf
      have hs1 := ex_t e12 hs
      have hx1 := dpa_ex e12 ds _ hx
      have lxs := dpa_len hx1
      refine s_retR (cb_1 ?_)
      refine lc_copyT (ev_var rfl) hs1 lxs lx (fun _ => rfl) (fun i v d hv hd => ?_) fun D ys H3 nD e3 hD dq => ?_
      · obtain ⟨d', hd', p⟩ := dpa_at2 hx1 hv
        have : d' = d := Option.some.inj (hd'.symm.trans hd)
        subst this
        exact cp_call em (ev_var rfl) p (fitAll_mem gx (List.mem_of_getElem? hd))
      · refine ⟨D, ys, rfl, .inl ⟨sq_of hD, fun T nT => ?_⟩⟩
        have eT := Ex.new (o := .tup ys) nT
        exact q _ _ ((e12.trans e3).trans eT) (.tup (new_ex (e12.trans e3) nT) upd_same (dqa_to (fun a n => new_ex e12 n.1) (fun a u _ ha => eT _ _ ha) _ _ dq))
    · have e12 := e1.trans e2
      refine q_when (b := false) (et_B (ev_isi (dp_ex e12 _ _ hv) (ev_var rfl) (kd_dict hv))) (fun h => (nomatch h)) fun _ H3 e3 => ?_
      have e13 := e12.trans e3
      refine s_ret (ev_var rfl) fun H4 e4 => q _ _ (e13.trans e4) (flat_dq (dp_ex (e13.trans e4) _ _ hv) hb hc)
theorem ok_copied {f : Addr} {fd : FuncData} (F : Fun K "copied" "copied" scopied f fd) (g : mg "copied" = some (.ref f)) (b : Binds K fd ["value"] []) (z_isinstance : mg "isinstance" = none) (z_list : mg "list" = none) (z_tuple : mg "tuple" = none) (z_dict : mg "dict" = none) : ∀ n, FnOk P w K mg base CX0 n f fd ["value"] (spCopy K n)
  | 0 => ⟨fun _ _ _ _ ⟨_, _, _, _, h, _⟩ => (nomatch h), fun _ _ _ _ _ _ _ _ _ _ _ _ _ ⟨_, _, _, _, h, _⟩ => (nomatch h)⟩
  | n + 1 => copied_step F z_isinstance z_list z_tuple z_dict ⟨f, fd, _, [], ok_copied F g b z_isinstance z_list z_tuple z_dict n, g, F.kp, b, .nil⟩
end
/-! ### what the program's tests of kinds say -/
def isIntD : PyData → Bool
  | .int _ => true
  | _ => false
def btw (lo hi : Int) : PyData → Bool
  | .int i => decide (lo ≤ i) && decide (i ≤ hi)
  | _ => false
/-- each less than the next -/
def up : List PyData → Bool
  | .int i :: .int j :: r => decide (i < j) && up (.int j :: r)
  | _ => true
def cellsD (c : Nat) : PyData → Bool
  | .list ds => ds.all (btw 0 ((c : Int) - 1)) && up ds
  | _ => false
def rowD (c : Nat) : PyData → Bool
  | .list ds => decide (ds.length = c + 2) && ds.all (btw (-9) 9)
  | _ => false
def listD : PyData → Bool
  | .list _ => true
  | _ => false
def pairD : PyData → Bool
  | .list [a, b] => listD a && listD b
  | _ => false
def szOf (x : Str) : Option Nat :=
  if x = "set" then some 3 else if x = "carry" then some 2 else if x = "keep" then some 3 else if x = "either" then some 3 else if x = "again" then some 2 else if x = "call" then some 4 else if x = "end" then some 2 else none
def sizedD : PyData → Bool
  | .tuple (.str x :: r) => decide (szOf x = some (r.length + 1))
  | _ => false
def stmD (c m : Nat) : PyData → Bool
  | .tuple [.str x, a] => if x = "carry" then rowD c a else if x = "again" then listD a else if x = "end" then btw 0 1 a else false
  | .tuple [.str x, a, b] => if x = "set" then btw 0 ((c : Int) - 1) a && rowD c b else if x = "keep" then cellsD c a && listD b else if x = "either" then listD a && listD b else false
  | .tuple [.str x, a, b, d] => if x = "call" then btw 0 ((m : Int) - 1) a && (rowD c b && pairD d) else false
  | _ => false
def blocksD : PyData → List PyData
  | .tuple [.str x, a] => if x = "again" then [a] else []
  | .tuple [.str x, a, b] => if x = "keep" then [b] else if x = "either" then [a, b] else []
  | .tuple [.str x, _, _, .list [a, b]] => if x = "call" then [a, b] else []
  | _ => []
abbrev sis_integer : Stmt := topS 2
theorem scis_integer : FnScope ["value"] ["value"] (defScope sis_integer) := ⟨rfl, rfl, rfl, by decide +kernel, rfl, by decide +kernel, by decide +kernel⟩
abbrev sis_between : Stmt := topS 3
theorem scis_between : FnScope ["value", "low", "high"] ["value", "low", "high"] (defScope sis_between) := ⟨rfl, rfl, rfl, by decide +kernel, rfl, by decide +kernel, by decide +kernel⟩
abbrev sis_bit : Stmt := topS 4
theorem scis_bit : FnScope ["value"] ["value"] (defScope sis_bit) := ⟨rfl, rfl, rfl, by decide +kernel, rfl, by decide +kernel, by decide +kernel⟩
abbrev sis_index : Stmt := topS 5
theorem scis_index : FnScope ["value", "many"] ["value", "many"] (defScope sis_index) := ⟨rfl, rfl, rfl, by decide +kernel, rfl, by decide +kernel, by decide +kernel⟩
abbrev sis_cell_list : Stmt := topS 6
theorem scis_cell_list : FnScope ["value", "cells", "one", "other", "cell"] ["value", "cells"] (defScope sis_cell_list) := ⟨rfl, rfl, rfl, by decide +kernel, rfl, by decide +kernel, by decide +kernel⟩
abbrev sis_row : Stmt := topS 20
theorem scis_row : FnScope ["value", "cells", "item"] ["value", "cells"] (defScope sis_row) := ⟨rfl, rfl, rfl, by decide +kernel, rfl, by decide +kernel, by decide +kernel⟩
abbrev sis_block_pair : Stmt := topS 21
theorem scis_block_pair : FnScope ["value"] ["value"] (defScope sis_block_pair) := ⟨rfl, rfl, rfl, by decide +kernel, rfl, by decide +kernel, by decide +kernel⟩
abbrev sis_sized : Stmt := topS 22
theorem scis_sized : FnScope ["value"] ["value"] (defScope sis_sized) := ⟨rfl, rfl, rfl, by decide +kernel, rfl, by decide +kernel, by decide +kernel⟩
abbrev sis_statement : Stmt := topS 23
theorem scis_statement : FnScope ["value", "cells", "procedures", "word"] ["value", "cells", "procedures"] (defScope sis_statement) := ⟨rfl, rfl, rfl, by decide +kernel, rfl, by decide +kernel, by decide +kernel⟩
abbrev sblocks_of : Stmt := topS 24
theorem scblocks_of : FnScope ["statement", "word"] ["statement"] (defScope sblocks_of) := ⟨rfl, rfl, rfl, by decide +kernel, rfl, by decide +kernel, by decide +kernel⟩
section
variable {P : Program} {w : World} {K : PySem.W.Frag} {mg : Str → Option Value} {base : Heap} {σ : L2.St} {H : Hp}
/-- a test of one value, and ints beside it -/
def spT (K : PySem.W.Frag) (ns : List Int) (f : PyData → Bool) : Sp := fun vs H Q _ => ∃ (v : V) (d : PyData), vs = v :: ns.map V.int ∧ Dp K H v d ∧ ∀ H', Ex H H' → Q (.bl (f d)) H'
def spInt (K : PySem.W.Frag) : Sp := fun vs H Q _ => ∃ (v : V) (d : PyData), vs = [v] ∧ Dp K H v d ∧ ∀ H', Ex H H' → Q (.bl (isIntD d)) H'
def spBtw (K : PySem.W.Frag) : Sp := fun vs H Q _ => ∃ (v : V) (d : PyData) (lo hi : Int), vs = [v, .int lo, .int hi] ∧ Dp K H v d ∧ ∀ H', Ex H H' → Q (.bl (btw lo hi d)) H'
def spBit (K : PySem.W.Frag) : Sp := fun vs H Q _ => ∃ (v : V) (d : PyData), vs = [v] ∧ Dp K H v d ∧ ∀ H', Ex H H' → Q (.bl (btw 0 1 d)) H'
def spIx (K : PySem.W.Frag) : Sp := fun vs H Q _ => ∃ (v : V) (d : PyData) (n : Int), vs = [v, .int n] ∧ Dp K H v d ∧ ∀ H', Ex H H' → Q (.bl (btw 0 (n - 1) d)) H'
theorem ev_spInt {te : TE} {E : XK} {v : V} {d : PyData} (h : Ev te σ H v) (hd : Dp K H v d) : Ev (tCall (spInt K) [] E (tCons te tNil)) σ H (.bl (isIntD d)) :=
  ev_call (ea_cons h ea_nil) fun H1 e Q q _ => ⟨v, d, rfl, dp_ex e d v hd, q⟩
theorem ev_spBtw {te t1 t2 : TE} {E : XK} {v : V} {d : PyData} {lo hi : Int} (h : Ev te σ H v) (h1 : Ev t1 σ H (.int lo)) (h2 : Ev t2 σ H (.int hi)) (hd : Dp K H v d) : Ev (tCall (spBtw K) [] E (tCons te (tCons t1 (tCons t2 tNil)))) σ H (.bl (btw lo hi d)) :=
  ev_call (ea_cons h (ea_cons h1 (ea_cons h2 ea_nil))) fun H1 e Q q _ => ⟨v, d, lo, hi, rfl, dp_ex e d v hd, q⟩
theorem ev_spBit {te : TE} {E : XK} {v : V} {d : PyData} (h : Ev te σ H v) (hd : Dp K H v d) : Ev (tCall (spBit K) [] E (tCons te tNil)) σ H (.bl (btw 0 1 d)) :=
  ev_call (ea_cons h ea_nil) fun H1 e Q q _ => ⟨v, d, rfl, dp_ex e d v hd, q⟩
theorem ev_spIx {te t1 : TE} {E : XK} {v : V} {d : PyData} {n : Int} (h : Ev te σ H v) (h1 : Ev t1 σ H (.int n)) (hd : Dp K H v d) : Ev (tCall (spIx K) [] E (tCons te (tCons t1 tNil))) σ H (.bl (btw 0 (n - 1) d)) :=
  ev_call (ea_cons h (ea_cons h1 ea_nil)) fun H1 e Q q _ => ⟨v, d, n, rfl, dp_ex e d v hd, q⟩
theorem ev_chain {r r' : R2} {ta tb tc : TE} {x y z : V} {a b : Bool} (h1 : Ev ta σ H x) (h2 : Ev tb σ H y) (hr : RV r x y H (.bl a)) (h3 : a = true → Ev tc σ H z ∧ RV r' y z H (.bl b)) : Ev (tChain r r' ta tb tc) σ H (.bl (a && b)) := fun H1 e Q q =>
  h1 H1 e _ fun H2 e2 => h2 H2 (e.trans e2) _ fun H3 e3 => hr H3 ((e.trans e2).trans e3) _ fun H4 e4 => ⟨a, rfl, by
    have e14 := ((e2.trans e3).trans e4)
    cases a with
    | true =>
      obtain ⟨k1, k2⟩ := h3 rfl
      show tc σ H4 _
      exact k1 H4 (e.trans e14) _ fun H5 e5 => k2 H5 (e.trans (e14.trans e5)) Q fun H6 e6 => q H6 ((e14.trans e5).trans e6)
    | false =>
      show Q (.bl false) H4
      exact q H4 e14⟩
theorem ok_is_integer {f : Addr} {fd : FuncData} {k : Nat} (F : Fun K "is_integer" "is_integer" sis_integer f fd) (z_isinstance : mg "isinstance" = none) (z_int : mg "int" = none) (z_bool : mg "bool" = none) : FnOk P w K mg base CX0 (k + 1) f fd ["value"] (spInt K) := by
  have sc := scis_integer
  refine F.ok sc (fun vs H Q E h => ?_) (fun cdv A outer s H vs Q E hr h => ?_)
  · obtain ⟨v, d, rfl, _⟩ := h
    rfl
  · obtain ⟨v, d, rfl, hd, q⟩ := h
    refine ⟨_, (pss_one (ps_ret (pe_and (pe_callB call_isi (by rfl) z_isinstance (by decide +kernel) (pa_cons (pv 0) (pa_cons (pe_bltn (v := .ty "int") (by rfl) z_int (by decide +kernel) rfl) pa_nil))) (pe_one (pe_not (pe_callB call_isi (by rfl) z_isinstance (by decide +kernel) (pa_cons (pv 0) (pa_cons (pe_bltn (v := .ty "bool") (by rfl) z_bool (by decide +kernel) rfl) pa_nil)))))))), ?_⟩
    have kd := kitB_isa d
    refine s_ret (ev_andV (ev_isi hd (ev_var rfl) kd.2.1) fun _ => ev_notV (ev_isi hd (ev_var rfl) kd.1)) fun H1 e1 => ?_
    have z : (isa d "int" && !isa d "bool") = isIntD d := by
      rw [isa_int, isa_bool]
      cases d <;> rfl
    rw [z]
    exact q H1 e1
theorem isInt_v {v : V} {d : PyData} (h : Dp K H v d) (hi : isIntD d = true) : ∃ i, v = .int i ∧ d = .int i := by
  cases h with
  | int i => exact ⟨i, rfl, rfl⟩
  | _ => cases hi
theorem btw_no {d : PyData} (lo hi : Int) (h : isIntD d = false) : btw lo hi d = false := by
  cases d <;> first | rfl | cases h
theorem ok_is_between {f : Addr} {fd : FuncData} {k : Nat} (F : Fun K "is_between" "is_between" sis_between f fd) (Cis_integer : Cal P w K mg base 1 "is_integer" (spInt K) []) (hk : 1 ≤ k) : FnOk P w K mg base CX0 (k + 1) f fd ["value", "low", "high"] (spBtw K) := by
  have sc := scis_between
  refine F.ok sc (fun vs H Q E h => ?_) (fun cdv A outer s H vs Q E hr h => ?_)
  · obtain ⟨v, d, lo, hi, rfl, _⟩ := h
    rfl
  · obtain ⟨v, d, lo, hi, rfl, hd, q⟩ := h
    refine ⟨_, (pss_one (ps_ret (pe_and (pe_c Cis_integer hr (by omega) (by rfl) (pa_cons (pv 0) pa_nil)) (pe_one (pe_chain op_le op_le (pv 1) (pv 0) (pv 2)))))), ?_⟩
    have z : (isIntD d && btw lo hi d) = btw lo hi d := by
      cases d <;> rfl
    rw [← z] at q
    cases hb : isIntD d with
    | false =>
      rw [hb] at q
      exact s_ret (ev_andV (a := false) (ev_is (ev_spInt (ev_var rfl) hd) (by rw [hb])) fun h => (nomatch h)) fun H1 e1 => q H1 e1
    | true =>
      obtain ⟨i, rfl, rfl⟩ := isInt_v hd hb
      exact s_ret (ev_andV (a := true) (b := decide (lo ≤ i) && decide (i ≤ hi)) (ev_spInt (ev_var rfl) hd) fun _ => ev_chain (ev_var rfl) (ev_var rfl) rv_I0 fun _ => ⟨ev_var rfl, rv_I0⟩) fun H1 e1 => q H1 e1
theorem ok_is_bit {f : Addr} {fd : FuncData} {k : Nat} (F : Fun K "is_bit" "is_bit" sis_bit f fd) (Cis_between : Cal P w K mg base 2 "is_between" (spBtw K) []) (hk : 2 ≤ k) : FnOk P w K mg base CX0 (k + 1) f fd ["value"] (spBit K) := by
  have sc := scis_bit
  refine F.ok sc (fun vs H Q E h => ?_) (fun cdv A outer s H vs Q E hr h => ?_)
  · obtain ⟨v, d, rfl, _⟩ := h
    rfl
  · obtain ⟨v, d, rfl, hd, q⟩ := h
    refine ⟨_, (pss_one (ps_ret (pe_c Cis_between hr (by omega) (by rfl) (pa_cons (pv 0) (pa_cons pe_int (pa_cons pe_int pa_nil)))))), ?_⟩
    exact s_ret (ev_spBtw (ev_var rfl) ev_c ev_c hd) fun H1 e1 => q H1 e1
theorem ok_is_index {f : Addr} {fd : FuncData} {k : Nat} (F : Fun K "is_index" "is_index" sis_index f fd) (Cis_between : Cal P w K mg base 2 "is_between" (spBtw K) []) (hk : 2 ≤ k) : FnOk P w K mg base CX0 (k + 1) f fd ["value", "many"] (spIx K) := by
  have sc := scis_index
  refine F.ok sc (fun vs H Q E h => ?_) (fun cdv A outer s H vs Q E hr h => ?_)
  · obtain ⟨v, d, n, rfl, _⟩ := h
    rfl
  · obtain ⟨v, d, n, rfl, hd, q⟩ := h
    refine ⟨_, (pss_one (ps_ret (pe_c Cis_between hr (by omega) (by rfl) (pa_cons (pv 0) (pa_cons pe_int (pa_cons (pe_op op_sub (pv 1) pe_int) pa_nil)))))), ?_⟩
    exact s_ret (ev_spBtw (ev_var rfl) ev_c (ev_op (ev_var rfl) ev_c rv_I0) hd) fun H1 e1 => q H1 e1
end
section
variable {P : Program} {w : World} {K : PySem.W.Frag} {mg : Str → Option Value} {base : Heap} {σ : L2.St} {H : Hp}
theorem ev_allN {te : TE} {bs : List Bool} (h : EvL te σ H (bs.map V.bl)) : Ev (tCB (rAll K) (tCons te tNil)) σ H (.bl (bs.all id)) := fun H1 e Q q =>
  h H1 e _ fun p H2 _ e2 h2 => ⟨p, bs, rfl, sq_of h2, q H2 e2⟩
/-- [f(x, ..) for x in xs], f a test -/
theorem el_tests {tl te : TE} {a : Addr} {xs : List V} {ds : List PyData} {j : Nat} {vs : List Nat} (p : PyData → Bool) (h : Ev tl σ H (.ref a)) (hs : SqL K H a xs) (hx : DpAll K H xs ds) (hl : ds.length ≤ 10000) (hw : ∀ x, wipe ((wipe σ vs).set j (some x)) vs = wipe σ vs)
    (he : ∀ (v : V) (d : PyData) H1, Ex H H1 → Dp K H1 v d → Ev te ((wipe σ vs).set j (some v)) H1 (.bl (p d))) : EvL (tLc (iList K tl) (gName j) tYes te vs) σ H ((ds.map p).map V.bl) := by
  have lxs := dpa_len hx
  refine el_is (el_lcL (fun _ => true) (fun i => .bl (p (ds.getD i .none))) h hs (by omega) hw (fun _ _ _ _ _ => et_yes) (fun i x H1 e1 hi _ => ?_)) ?_
  · have hi2 : i < ds.length := by have := (List.getElem?_eq_some_iff.mp hi).1; omega
    obtain ⟨v, h1, h2⟩ := dpa_at hx hi2
    have : v = x := Option.some.inj (h1.symm.trans hi)
    subst this
    exact he v _ H1 e1 (dp_ex e1 _ _ h2)
  · rw [given_all, lxs, List.map_map]
    refine List.ext_getElem (by simp) fun i h1 h2 => ?_
    have hi : i < ds.length := by simpa using h1
    simp only [List.getElem_map, List.getElem_range]
    rw [List.getD_eq_getElem?_getD, List.getElem?_eq_getElem hi]
    rfl
theorem all_map (p : PyData → Bool) (ds : List PyData) : (ds.map p).all id = ds.all p := by
  rw [List.all_map]; rfl
def spRw (K : PySem.W.Frag) : Sp := fun vs H Q _ => ∃ (v : V) (d : PyData) (c n : Nat), vs = [v, .int (c : Int)] ∧ Dp K H v d ∧ fit d n = true ∧ ∀ H', Ex H H' → Q (.bl (rowD c d)) H'
theorem ev_spRw {te t1 : TE} {E : XK} {v : V} {d : PyData} {c n : Nat} (h : Ev te σ H v) (h1 : Ev t1 σ H (.int (c : Int))) (hd : Dp K H v d) (hf : fit d n = true) : Ev (tCall (spRw K) [] E (tCons te (tCons t1 tNil))) σ H (.bl (rowD c d)) :=
  ev_call (ea_cons h (ea_cons h1 ea_nil)) fun H1 e Q q _ => ⟨v, d, c, n, rfl, dp_ex e d v hd, hf, q⟩
theorem rowD_list {c : Nat} {d : PyData} (h : isa d "list" = false) : rowD c d = false ∧ cellsD c d = false ∧ pairD d = false ∧ listD d = false := by
  rw [isa_list] at h
  cases d <;> first | exact ⟨rfl, rfl, rfl, rfl⟩ | cases h
theorem ok_is_row {f : Addr} {fd : FuncData} {k : Nat} {tk : Tok} (F : Fun K "is_row" "is_row" sis_row f fd) (z_isinstance : mg "isinstance" = none) (z_list : mg "list" = none) (z_len : mg "len" = none) (z_all : mg "all" = none) (c_ROW_LIMIT : mg "ROW_LIMIT" = some (.int 9 tk)) (Cis_between : Cal P w K mg base 2 "is_between" (spBtw K) []) (hk : 2 ≤ k) :
    FnOk P w K mg base CX0 (k + 1) f fd ["value", "cells"] (spRw K) := by
  have sc := scis_row
  refine F.ok sc (fun vs H Q E h => ?_) (fun cdv A outer s H vs Q E hr h => ?_)
  · obtain ⟨v, d, c, n, rfl, _⟩ := h
    rfl
  · obtain ⟨v, d, c, n, rfl, hd, hf, q⟩ := h
    refine ⟨_, (pss_cons (ps_if (PW.pt (pw_or (pt_not (pt_val (pe_callB call_isi (by rfl) z_isinstance (by decide +kernel) (pa_cons (pv 0) (pa_cons (pe_bltn (v := .ty "list") (by rfl) z_list (by decide +kernel) rfl) pa_nil))))) (pw_or1 (pt_cmpR op_ne (pe_callB call_len_seq (by rfl) z_len (by decide +kernel) (pa_cons (pv 0) pa_nil)) (pe_op op_add (pv 1) pe_int) (nomark _)))))
      (pss_one (ps_ret pe_bl))
      pss_nil)
      (pss_one (ps_ret (pe_callB (cr_all rfl) (by rfl) z_all (by decide +kernel) (pa_cons (pe_lc (own := [("item", 2)]) (by rfl) sc.nd (pi_list (pv 0)) (blkOk_by (own := [("item", 2)]) (N := ["value", "cells", "item"]) (sc := defScope sis_row) (by decide +kernel)) (fun _ _ _ _ _ => (pg_name (i := 2) sc.nd rfl (by first | exact Or.inl rfl | exact Or.inr rfl))) (fun _ _ _ _ _ => pts_nil) (fun _ _ _ _ _ => (pe_c Cis_between hr (by omega) (by rfl) (pa_cons (pv 2) (pa_cons (pe_un un_neg (pe_glob (v := .int 9) (by rfl) c_ROW_LIMIT ⟨_, rfl⟩)) (pa_cons (pe_glob (v := .int 9) (by rfl) c_ROW_LIMIT ⟨_, rfl⟩) pa_nil)))))) pa_nil))))), ?_⟩
    have kd := kitB_isa d
    cases hb : isa d "list" with
    | false =>
      refine q_when (b := true) (et_or (a := true) (b := false) (et_is (et_not (et_B (ev_isi hd (ev_var rfl) kd.2.2.2.1))) (by rw [hb]; rfl)) fun h => (nomatch h)) (fun _ H1 e1 => ?_) (fun h => (nomatch h))
      rw [(rowD_list (c := c) hb).1] at q
      exact s_ret ev_c fun H2 e2 => q H2 (e1.trans e2)
    | true =>
      obtain ⟨a, xs, ds, rfl, rfl, hs, hx⟩ := isa_list_t hd hb
      obtain ⟨m, em, lx, gx⟩ := fit_list hf
      have lxs := dpa_len hx
      refine q_when (et_or (a := false) (et_is (et_not (et_B (ev_isi hd (ev_var rfl) kd.2.2.2.1))) (by rw [hb]; rfl)) fun _ => et_test (ev_op (ev_lenS (ev_var rfl) (.inl hs)) (ev_op (ev_var rfl) ev_c rv_I0) (rv_ne rfl))) (fun hl H1 e1 => ?_) (fun hl H1 e1 => ?_)
      · refine s_ret ev_c fun H2 e2 => ?_
        have z : false = rowD c (.list ds) := by
          have : ds.length ≠ c + 2 := fun e => by
            rw [lxs, e, Int.natCast_add] at hl
            simp at hl
          rw [rowD, decide_eq_false this]; rfl
        rw [z]
        exact q H2 (e1.trans e2)
      · refine s_ret (ev_allN (el_tests (btw (-9) 9) (ev_var rfl) (ex_l e1 hs) (dpa_ex e1 ds _ hx) lx (fun _ => rfl) fun v d H2 e2 hv => ev_spBtw (ev_var rfl) (ev_un ev_c ru_neg) ev_c hv)) fun H2 e2 => ?_
        have z : (ds.map (btw (-9) 9)).all id = rowD c (.list ds) := by
          have : ds.length = c + 2 := by
            have h2 : V.int (xs.length : Int) = V.int ((c : Int) + 2) := of_decide_eq_true (by simpa using hl)
            have := V.int.inj h2
            omega
          rw [all_map, rowD, decide_eq_true this, Bool.true_and]
        rw [z]
        exact q H2 (e1.trans e2)
def spPair (K : PySem.W.Frag) : Sp := fun vs H Q _ => ∃ (v : V) (d : PyData), vs = [v] ∧ Dp K H v d ∧ ∀ H', Ex H H' → Q (.bl (pairD d)) H'
theorem listD_isa (d : PyData) : listD d = isa d "list" := by
  rw [isa_list]; cases d <;> rfl
theorem ok_is_block_pair {f : Addr} {fd : FuncData} {k : Nat} (F : Fun K "is_block_pair" "is_block_pair" sis_block_pair f fd) (z_isinstance : mg "isinstance" = none) (z_list : mg "list" = none) (z_len : mg "len" = none) : FnOk P w K mg base CX0 (k + 1) f fd ["value"] (spPair K) := by
  have sc := scis_block_pair
  refine F.ok sc (fun vs H Q E h => ?_) (fun cdv A outer s H vs Q E hr h => ?_)
  · obtain ⟨v, d, rfl, _⟩ := h
    rfl
  · obtain ⟨v, d, rfl, hd, q⟩ := h
    refine ⟨_, (pss_cons (ps_if (PW.pt (pw_or (pt_not (pt_val (pe_callB call_isi (by rfl) z_isinstance (by decide +kernel) (pa_cons (pv 0) (pa_cons (pe_bltn (v := .ty "list") (by rfl) z_list (by decide +kernel) rfl) pa_nil))))) (pw_or1 (pt_cmpR op_ne (pe_callB call_len_seq (by rfl) z_len (by decide +kernel) (pa_cons (pv 0) pa_nil)) pe_int (nomark _)))))
      (pss_one (ps_ret pe_bl))
      pss_nil)
      (pss_one (ps_ret (pe_and (pe_callB call_isi (by rfl) z_isinstance (by decide +kernel) (pa_cons (pe_ix ix_list (pv 0) pe_int (fun _ _ => rfl)) (pa_cons (pe_bltn (v := .ty "list") (by rfl) z_list (by decide +kernel) rfl) pa_nil))) (pe_one (pe_callB call_isi (by rfl) z_isinstance (by decide +kernel) (pa_cons (pe_ix ix_list (pv 0) pe_int (fun _ _ => rfl)) (pa_cons (pe_bltn (v := .ty "list") (by rfl) z_list (by decide +kernel) rfl) pa_nil)))))))), ?_⟩
    have kd := kitB_isa d
    cases hb : isa d "list" with
    | false =>
      refine q_when (b := true) (et_or (a := true) (b := false) (et_is (et_not (et_B (ev_isi hd (ev_var rfl) kd.2.2.2.1))) (by rw [hb]; rfl)) fun h => (nomatch h)) (fun _ H1 e1 => ?_) (fun h => (nomatch h))
      rw [(rowD_list (c := 0) hb).2.2.1] at q
      exact s_ret ev_c fun H2 e2 => q H2 (e1.trans e2)
    | true =>
      obtain ⟨a, xs, ds, rfl, rfl, hs, hx⟩ := isa_list_t hd hb
      have lxs := dpa_len hx
      refine q_when (et_or (a := false) (et_is (et_not (et_B (ev_isi hd (ev_var rfl) kd.2.2.2.1))) (by rw [hb]; rfl)) fun _ => et_test (ev_op (ev_lenS (ev_var rfl) (.inl hs)) ev_c (rv_ne rfl))) (fun hl H1 e1 => ?_) (fun hl H1 e1 => ?_)
      · refine s_ret ev_c fun H2 e2 => ?_
        have z : false = pairD (.list ds) := by
          match ds, lxs with
          | [], _ => rfl
          | [_], _ => rfl
          | [_, _], h => rw [h] at hl; simp at hl
          | _ :: _ :: _ :: _, _ => rfl
        rw [z]
        exact q H2 (e1.trans e2)
      · have h2 : V.int (xs.length : Int) = V.int 2 := of_decide_eq_true (by simpa using hl)
        have h3 := V.int.inj h2
        match ds, hx, lxs with
        | [], _, h => exact absurd (show xs.length = 0 from h) (by omega)
        | [_], _, h => exact absurd (show xs.length = 1 from h) (by omega)
        | _ :: _ :: _ :: r, _, h => exact absurd (show xs.length = r.length + 1 + 1 + 1 from h) (by omega)
        | [d1, d2], .cons (v := v1) p1 (.cons (v := v2) p2 .nil), _ =>
          have k1 := kitB_isa d1
          have k2 := kitB_isa d2
          refine s_ret (ev_andV (ev_isi (dp_ex e1 _ _ p1) (ev_op (ev_var rfl) ev_c (rv_ixL (ex_l e1 hs) (atI_nat (j := 0) rfl))) k1.2.2.2.1) fun _ => ev_isi (dp_ex e1 _ _ p2) (ev_op (ev_var rfl) ev_c (rv_ixL (ex_l e1 hs) (atI_nat (j := 1) rfl))) k2.2.2.2.1) fun H2 e2 => ?_
          rw [← listD_isa, ← listD_isa]
          exact q H2 (e1.trans e2)
end
section
variable {P : Program} {w : World} {K : PySem.W.Frag} {mg : Str → Option Value} {base : Heap} {σ : L2.St} {H : Hp}
/-- the written dict of sizes -/
structure Sizes (K : PySem.W.Frag) (w : World) (a : Addr) (es : Array DictEntry) (n : Nat) (ok : Str → Prop) : Prop where
  d : KDict K w a es n
  yes : ∀ x m, ok x → szOf x = some m → ∃ t, PySem.W.nsIn K a x = some (some (.int (m : Int) t))
  no : ∀ x, ok x → szOf x = none → PySem.W.nsIn K a x = some none
/-- the first word is a known one -/
def wordOk (ok : Str → Prop) : PyData → Prop
  | .tuple (.str x :: _) => ok x
  | _ => True
def spSized (K : PySem.W.Frag) (ok : Str → Prop) : Sp := fun vs H Q _ => ∃ (v : V) (d : PyData), vs = [v] ∧ Dp K H v d ∧ wordOk ok d ∧ ∀ H', Ex H H' → Q (.bl (sizedD d)) H'
theorem et_truT {a : Addr} {xs : List V} {te : TE} (h : Ev te σ H (.ref a)) (hs : SqT K H a xs) : EvT (fun σ H Q => te σ H fun x H' => ∃ k, TruV K x H' k ∧ Q k H') σ H (!xs.isEmpty) := fun H1 e Q q =>
  h H1 e _ fun H2 e2 => ⟨_, .inr (.inl ⟨xs, ex_t (e.trans e2) hs, rfl⟩), q H2 e2⟩
theorem et_truL {a : Addr} {xs : List V} {te : TE} (h : Ev te σ H (.ref a)) (hs : SqL K H a xs) : EvT (fun σ H Q => te σ H fun x H' => ∃ k, TruV K x H' k ∧ Q k H') σ H (!xs.isEmpty) := fun H1 e Q q =>
  h H1 e _ fun H2 e2 => ⟨_, .inl ⟨xs, ex_l (e.trans e2) hs, rfl⟩, q H2 e2⟩
theorem rv_notInKd {a : Addr} {x : Str} {r : Option Value} (h : PySem.W.nsIn K a x = some r) : RV (fun x y H Q => ∃ (z : Str) (r : Option Value), x = .str z ∧ y = .ref a ∧ PySem.W.nsIn K a z = some r ∧ Q (.bl (!r.isSome)) H) (.str x) (.ref a) H (.bl (!r.isSome)) :=
  rv_val fun _ _ _ q => ⟨x, r, rfl, rfl, h, q⟩
theorem sizedD_no {d : PyData} (h : isa d "tuple" = false) : sizedD d = false := by
  rw [isa_tuple] at h
  cases d <;> first | rfl | cases h
theorem ok_is_sized {f : Addr} {fd : FuncData} {k : Nat} {a_SIZES : Addr} {es : Array DictEntry} {en : Nat} {ok : Str → Prop} (F : Fun K "is_sized" "is_sized" sis_sized f fd) (z_isinstance : mg "isinstance" = none) (z_tuple : mg "tuple" = none) (z_str : mg "str" = none) (z_len : mg "len" = none)
    (c_SIZES : mg "SIZES" = some (.ref a_SIZES)) (S : Sizes K w a_SIZES es en ok) : FnOk P w K mg base CX0 (k + 1) f fd ["value"] (spSized K ok) := by
  have sc := scis_sized
  refine F.ok sc (fun vs H Q E h => ?_) (fun cdv A outer s H vs Q E hr h => ?_)
  · obtain ⟨v, d, rfl, _⟩ := h
    rfl
  · obtain ⟨v, d, rfl, hd, hw, q⟩ := h
    refine ⟨_, (pss_cons (ps_if (PW.pt (pw_or (pt_not (pt_val (pe_callB call_isi (by rfl) z_isinstance (by decide +kernel) (pa_cons (pv 0) (pa_cons (pe_bltn (v := .ty "tuple") (by rfl) z_tuple (by decide +kernel) rfl) pa_nil))))) (pw_or1 (pt_not (pt_truth (pv 0) (by intro _; rfl))))))
      (pss_one (ps_ret pe_bl))
      pss_nil)
      (pss_cons (ps_if (PW.pt (pw_or (pt_not (pt_val (pe_callB call_isi (by rfl) z_isinstance (by decide +kernel) (pa_cons (pe_ix ix_tup (pv 0) pe_int (fun _ _ => rfl)) (pa_cons (pe_bltn (v := .ty "str") (by rfl) z_str (by decide +kernel) rfl) pa_nil))))) (pw_or1 (pt_cmpR (op_notIn_kd S.d) (pe_ix ix_tup (pv 0) pe_int (fun _ _ => rfl)) (pe_glob (v := .ref a_SIZES) (by rfl) c_SIZES rfl) (by rfl)))))
      (pss_one (ps_ret pe_bl))
      pss_nil)
      (pss_one (ps_ret (pe_cmpR op_eq (pe_callB call_len_seq (by rfl) z_len (by decide +kernel) (pa_cons (pv 0) pa_nil)) (pe_ix ix_kdict (pe_glob (v := .ref a_SIZES) (by rfl) c_SIZES rfl) (pe_ix ix_tup (pv 0) pe_int (fun _ _ => rfl)) (fun _ _ => rfl)) (nomark _)))))), ?_⟩
    have kd := kitB_isa d
    cases hb : isa d "tuple" with
    | false =>
      refine q_when (b := true) (et_or (a := true) (b := false) (et_is (et_not (et_B (ev_isi hd (ev_var rfl) kd.2.2.2.2))) (by rw [hb]; rfl)) fun h => (nomatch h)) (fun _ H1 e1 => ?_) (fun h => (nomatch h))
      rw [sizedD_no hb] at q
      exact s_ret ev_c fun H2 e2 => q H2 (e1.trans e2)
    | true =>
      obtain ⟨a, xs, ds, rfl, rfl, hs, hx⟩ := isa_tuple_t hd hb
      have lxs := dpa_len hx
      refine q_when (et_or (a := false) (et_is (et_not (et_B (ev_isi hd (ev_var rfl) kd.2.2.2.2))) (by rw [hb]; rfl)) fun _ => et_not (et_truT (ev_var rfl) hs)) (fun hl H1 e1 => ?_) (fun hl H1 e1 => ?_)
      · have hx0 : xs = [] := by cases xs with
          | nil => rfl
          | cons _ _ => simp at hl
        have hd0 : ds = [] := by
          rw [hx0] at lxs
          exact List.length_eq_zero_iff.mp lxs.symm
        subst hd0
        exact s_ret ev_c fun H2 e2 => q H2 (e1.trans e2)
      · match ds, hx, lxs with
        | [], .nil, _ => simp at hl
        | d0 :: dr, .cons (v := v0) (vs := vr) p0 pr, lxs =>
          have k0 := kitB_isa d0
          have it : ∀ H2, Ex H H2 → Ev (tOp (rIxT K) (tVar 0) (tC (.int 0))) [some (V.ref a)] H2 v0 := fun H2 e2 => ev_op (ev_var rfl) ev_c (rv_ixT (ex_t e2 hs) (atI_nat (j := 0) rfl))
          cases hs0 : isa d0 "str" with
          | false =>
            refine q_when (b := true) (et_or (a := true) (b := false) (et_is (et_not (et_B (ev_isi (dp_ex e1 _ _ p0) (it _ e1) k0.2.2.1))) (by rw [hs0]; rfl)) fun h => (nomatch h)) (fun _ H2 e2 => ?_) (fun h => (nomatch h))
            have z : sizedD (.tuple (d0 :: dr)) = false := by
              rw [isa_str] at hs0
              cases d0 <;> first | rfl | cases hs0
            rw [z] at q
            exact s_ret ev_c fun H3 e3 => q H3 ((e1.trans e2).trans e3)
          | true =>
            obtain ⟨x, rfl, rfl⟩ : ∃ x, v0 = .str x ∧ d0 = .str x := by
              rw [isa_str] at hs0
              cases p0 <;> first | exact ⟨_, rfl, rfl⟩ | cases hs0
            have hwx : ok x := hw
            cases hz : szOf x with
            | none =>
              have hno := S.no x hwx hz
              refine q_when (et_or (a := false) (b := true) (et_is (et_not (et_B (ev_isi (dp_ex e1 _ _ p0) (it _ e1) k0.2.2.1))) (by rw [hs0]; rfl)) fun _ => et_test (ev_op (it _ e1) ev_c (rv_notInKd hno))) (fun _ H2 e2 => ?_) (fun h => (nomatch h))
              have z : sizedD (.tuple (.str x :: dr)) = false := by rw [sizedD, hz]; rfl
              rw [z] at q
              exact s_ret ev_c fun H3 e3 => q H3 ((e1.trans e2).trans e3)
            | some m =>
              obtain ⟨t, hyes⟩ := S.yes x m hwx hz
              refine q_when (et_or (a := false) (b := false) (et_is (et_not (et_B (ev_isi (dp_ex e1 _ _ p0) (it _ e1) k0.2.2.1))) (by rw [hs0]; rfl)) fun _ => et_test (ev_op (it _ e1) ev_c (rv_notInKd hyes))) (fun h => (nomatch h)) (fun _ H2 e2 => ?_)
              have e12 := e1.trans e2
              refine s_ret (ev_op (ev_lenS (ev_var rfl) (.inr (ex_t e12 hs))) (ev_op ev_c (it _ e12) (rv_val (z := .int (m : Int)) fun _ _ _ q => ⟨a_SIZES, x, .int (m : Int), rfl, rfl, ⟨es, en, _, S.d.at_, S.d.lit, hyes, ⟨t, rfl⟩⟩, q⟩)) (rv_eq rfl)) fun H3 e3 => ?_
              have z : decide (V.int ((V.str x :: vr).length : Int) = V.int (m : Int)) = sizedD (.tuple (.str x :: dr)) := by
                rw [sizedD, hz]
                have l2 : (V.str x :: vr).length = dr.length + 1 := lxs
                rw [l2]
                by_cases e : m = dr.length + 1
                · rw [e, decide_eq_true rfl, decide_eq_true rfl]
                · rw [decide_eq_false fun h => e (by have := V.int.inj h; omega), decide_eq_false fun h => e (Option.some.inj h)]
              rw [z]
              exact q H3 (e12.trans e3)
end
/-! ### a tuple as a comprehension's target -/
section
variable {X : Cx}
theorem pg_tupK {K : PySem.W.Frag} {es : List Expr} {n k : Nat} {pos : Pos} {t : TGs} (hK : X.K = K) (hc : X.calm = true) (h : PGs X es t)
    (hn : (assignEach es X.env).length = n := by rfl) (hst : (assignEach es X.env).findIdx? (·.1) = none := by rfl) : PG X (.Tuple es k pos) (gTup K n t) := by
  subst hK
  exact pg_tup hc h hn hst
end
section
variable {P : Program} {w : World} {K : PySem.W.Frag} {mg : Str → Option Value} {base : Heap} {σ : L2.St} {H : Hp}
theorem cut1 (xs : List V) : cutV xs (some 1) none = xs.drop 1 := by
  unfold cutV
  rw [show HT.sIx xs.length 0 (some 1) = min 1 xs.length from HT.sIx_nat xs.length 0 1, HT.sIx_none]
  cases xs with
  | nil => rfl
  | cons x r =>
    rw [show min 1 (x :: r).length = 1 by rw [List.length_cons]; omega]
    show (List.take ((x :: r).length - 1) r) = r
    rw [List.length_cons, Nat.add_sub_cancel]
    exact List.take_length
theorem all_btw {lo hi : Int} : ∀ {ds : List PyData}, ds.all (btw lo hi) = true → ∃ ns : List Int, ds = ns.map PyData.int
  | [], _ => ⟨[], rfl⟩
  | d :: r, h => by
    rw [List.all_cons, Bool.and_eq_true] at h
    obtain ⟨ns, e⟩ := all_btw h.2
    cases d with
    | int i => exact ⟨i :: ns, by rw [e]; rfl⟩
    | _ => cases h.1
theorem dpa_ofInts : ∀ {xs : List V} {ns : List Int}, DpAll K H xs (ns.map PyData.int) → xs = ns.map V.int
  | _, [], .nil => rfl
  | _, n :: r, .cons a b => by
    cases a
    rw [dpa_ofInts b]; rfl
def lessAt (ns : List Int) (i : Nat) : Bool := decide (ns.getD i 0 < ns.getD (i + 1) 0)
theorem up_ints : ∀ ns : List Int, ((List.range (ns.length - 1)).map (lessAt ns)).all id = up (ns.map PyData.int)
  | [] => rfl
  | [a] => rfl
  | a :: b :: r => by
    have ih := up_ints (b :: r)
    show ((List.range (r.length + 1)).map (lessAt (a :: b :: r))).all id = (decide (a < b) && up ((b :: r).map PyData.int))
    rw [← ih, List.range_succ_eq_map, List.map_cons, List.all_cons, List.map_map]
    rfl
def spCl (K : PySem.W.Frag) : Sp := fun vs H Q _ => ∃ (v : V) (d : PyData) (c n : Nat), vs = [v, .int (c : Int)] ∧ Dp K H v d ∧ fit d n = true ∧ ∀ H', Ex H H' → Q (.bl (cellsD c d)) H'
theorem ev_spCl {te t1 : TE} {E : XK} {v : V} {d : PyData} {c n : Nat} (h : Ev te σ H v) (h1 : Ev t1 σ H (.int (c : Int))) (hd : Dp K H v d) (hf : fit d n = true) : Ev (tCall (spCl K) [] E (tCons te (tCons t1 tNil))) σ H (.bl (cellsD c d)) :=
  ev_call (ea_cons h (ea_cons h1 ea_nil)) fun H1 e Q q _ => ⟨v, d, c, n, rfl, dp_ex e d v hd, hf, q⟩
theorem ok_is_cell_list {f : Addr} {fd : FuncData} {k : Nat} (F : Fun K "is_cell_list" "is_cell_list" sis_cell_list f fd) (z_isinstance : mg "isinstance" = none) (z_list : mg "list" = none) (z_all : mg "all" = none) (z_zip : mg "zip" = none) (Cis_index : Cal P w K mg base 3 "is_index" (spIx K) []) (hk : 3 ≤ k) :
    FnOk P w K mg base CX0 (k + 1) f fd ["value", "cells"] (spCl K) := by
  have sc := scis_cell_list
  refine F.ok sc (fun vs H Q E h => ?_) (fun cdv A outer s H vs Q E hr h => ?_)
  · obtain ⟨v, d, c, n, rfl, _⟩ := h
    rfl
  · obtain ⟨v, d, c, n, rfl, hd, hf, q⟩ := h
    refine ⟨_, (pss_cons (ps_if (pt_not (pt_val (pe_callB call_isi (by rfl) z_isinstance (by decide +kernel) (pa_cons (pv 0) (pa_cons (pe_bltn (v := .ty "list") (by rfl) z_list (by decide +kernel) rfl) pa_nil)))))
      (pss_one (ps_ret pe_bl))
      pss_nil)
      (pss_cons (ps_if (pt_not (pt_val (pe_callB (cr_all rfl) (by rfl) z_all (by decide +kernel) (pa_cons (pe_lc (own := [("cell", 4)]) (by rfl) sc.nd (pi_list (pv 0)) (blkOk_by (own := [("cell", 4)]) (N := ["value", "cells", "one", "other", "cell"]) (sc := defScope sis_cell_list) (by decide +kernel)) (fun _ _ _ _ _ => (pg_name (i := 4) sc.nd rfl (by first | exact Or.inl rfl | exact Or.inr rfl))) (fun _ _ _ _ _ => pts_nil) (fun _ _ _ _ _ => (pe_c Cis_index hr (by omega) (by rfl) (pa_cons (pv 4) (pa_cons (pv 1) pa_nil))))) pa_nil))))
      (pss_one (ps_ret pe_bl))
      pss_nil)
      (pss_one (ps_ret (pe_callB (cr_all rfl) (by rfl) z_all (by decide +kernel) (pa_cons (pe_lc (own := [("one", 2), ("other", 3)]) (by rfl) sc.nd (pi_zip (by rfl) z_zip (pa_cons (pv 0) (pa_cons (pe_slice sl_list (pv 0) (po_some pe_int) po_none) pa_nil))) (blkOk_by (own := [("one", 2), ("other", 3)]) (N := ["value", "cells", "one", "other", "cell"]) (sc := defScope sis_cell_list) (by decide +kernel)) (fun _ _ _ _ _ => (pg_tupK (K := K) (n := 2) rfl rfl (pgs_cons (pg_name (i := 2) sc.nd rfl (by first | exact Or.inl rfl | exact Or.inr rfl)) (pgs_cons (pg_name (i := 3) sc.nd rfl (by first | exact Or.inl rfl | exact Or.inr rfl)) pgs_nil)))) (fun _ _ _ _ _ => pts_nil) (fun _ _ _ _ _ => (pe_cmpR op_lt (pv 2) (pv 3) (nomark _)))) pa_nil)))))), ?_⟩
    have kd := kitB_isa d
    refine q_when (et_not (et_B (ev_isi hd (ev_var rfl) kd.2.2.2.1))) (fun hb H1 e1 => ?_) (fun hb H1 e1 => ?_)
    · rw [Bool.not_eq_true'] at hb
      rw [(rowD_list (c := c) hb).2.1] at q
      exact s_ret ev_c fun H2 e2 => q H2 (e1.trans e2)
    rw [Bool.not_eq_false'] at hb
    obtain ⟨a, xs, ds, rfl, rfl, hs, hx⟩ := isa_list_t hd hb
    obtain ⟨m, em, lx, gx⟩ := fit_list hf
    have lxs := dpa_len hx
    refine q_when (et_not (et_B (ev_allN (el_tests (btw 0 ((c : Int) - 1)) (ev_var rfl) (ex_l e1 hs) (dpa_ex e1 ds _ hx) lx (fun _ => rfl) fun v d H2 e2 hv => ev_spIx (ev_var rfl) (ev_var rfl) hv)))) (fun hc H2 e2 => ?_) (fun hc H2 e2 => ?_)
    · rw [Bool.not_eq_true', all_map] at hc
      rw [cellsD, hc] at q
      exact s_ret ev_c fun H3 e3 => q H3 ((e1.trans e2).trans e3)
    rw [Bool.not_eq_false', all_map] at hc
    have e12 := e1.trans e2
    rw [cellsD, hc, Bool.true_and] at q
    obtain ⟨ns, rfl⟩ := all_btw hc
    obtain rfl := dpa_ofInts hx
    rw [List.length_map] at lxs lx
    have hs2 := ex_l e12 hs
    refine s_retR (cb_1 ?_)
    refine ⟨.ref a, rfl, .ref a, rfl, 1, rfl, a, ns.map V.int, rfl, hs2, fun C nC => ?_⟩
    rw [cut1, ← List.map_drop]
    have eC := Ex.new (o := .lst ((ns.drop 1).map V.int)) nC
    have e3 := e12.trans eC
    refine ⟨a, C, ns.map V.int, (ns.drop 1).map V.int, rfl, ex_l eC hs2, sq_of upd_same, fun D nD => ?_⟩
    refine lc_it (walk_zip (n := ns.length - 1) (xs := ns.map V.int) (ys := (ns.drop 1).map V.int) (by rw [List.length_map, List.length_map, List.length_drop]; omega)) (fun i H' => Ex (upd H2 C (.lst ((ns.drop 1).map V.int))) H' ∧ H' D = some (.lst (((List.range i).map (lessAt ns)).map V.bl)))
      ⟨Ex.new nD, upd_same⟩ (fun i H' _ p => ⟨ex_l (eC.trans p.1) hs2, sq_of (p.1 _ _ upd_same)⟩) (fun i v H' H3 hi p y => ?_) (fun H' p => ?_)
    · obtain ⟨p1, p2⟩ := p
      obtain ⟨T, x, z, rfl, nT, rfl, hx, hz⟩ := y
      have h1 : i < ns.length := by omega
      have h2 : i + 1 < ns.length := by omega
      have hx : (ns.map V.int)[i]? = some x := hx
      have hz : ((ns.drop 1).map V.int)[i]? = some z := hz
      rw [List.getElem?_map, List.getElem?_eq_getElem h1] at hx
      have hx : V.int ns[i] = x := Option.some.inj hx
      subst hx
      rw [List.getElem?_map, List.getElem?_drop, Nat.add_comm 1 i, List.getElem?_eq_getElem h2] at hz
      have hz : V.int ns[i + 1] = z := Option.some.inj hz
      subst hz
      refine ⟨T, [.int ns[i], .int ns[i + 1]], rfl, .inl (.inl upd_same), rfl, .int ns[i], [.int ns[i + 1]], rfl, .int ns[i + 1], [], rfl, rfl, ?_⟩
      refine ⟨rfl, .int ns[i], rfl, .int ns[i + 1], rfl, ns[i], ns[i + 1], rfl, rfl, _, Ex.new nT _ _ p2, ?_, (p1.trans (Ex.new nT)).mut nD, ?_⟩
      · rw [List.length_map, List.length_map, List.length_range]; exact sz_lt (by omega)
      · rw [upd_same, List.range_succ, List.map_append, List.map_append]
        have : decide (ns[i] < ns[i + 1]) = lessAt ns i := by
          rw [lessAt, List.getD_eq_getElem?_getD, List.getD_eq_getElem?_getD, List.getElem?_eq_getElem h1, List.getElem?_eq_getElem h2]
          rfl
        exact congrArg (fun b => some (HO.lst (((List.range i).map (lessAt ns)).map V.bl ++ [V.bl b]))) this
    · refine ⟨D, _, rfl, sq_of p.2, ?_⟩
      rw [up_ints]
      exact q H' (e3.trans p.1)
/-! ### statements -/
theorem sized_cases {d : PyData} (h : sizedD d = true) : (∃ a, d = .tuple [.str "carry", a]) ∨ (∃ a, d = .tuple [.str "again", a]) ∨ (∃ a, d = .tuple [.str "end", a]) ∨ (∃ a b, d = .tuple [.str "set", a, b]) ∨ (∃ a b, d = .tuple [.str "keep", a, b]) ∨
    (∃ a b, d = .tuple [.str "either", a, b]) ∨ ∃ a b e, d = .tuple [.str "call", a, b, e] := by
  match d, h with
  | .tuple (.str x :: r), h =>
    rw [sizedD, decide_eq_true_eq] at h
    unfold szOf at h
    split at h
    · rename_i e; subst e
      match r, h with
      | [a, b], _ => exact .inr (.inr (.inr (.inl ⟨a, b, rfl⟩)))
      | [], h | [_], h | _ :: _ :: _ :: _, h => simp at h
    · split at h
      · rename_i e; subst e
        match r, h with
        | [a], _ => exact .inl ⟨a, rfl⟩
        | [], h | _ :: _ :: _, h => simp at h
      · split at h
        · rename_i e; subst e
          match r, h with
          | [a, b], _ => exact .inr (.inr (.inr (.inr (.inl ⟨a, b, rfl⟩))))
          | [], h | [_], h | _ :: _ :: _ :: _, h => simp at h
        · split at h
          · rename_i e; subst e
            match r, h with
            | [a, b], _ => exact .inr (.inr (.inr (.inr (.inr (.inl ⟨a, b, rfl⟩)))))
            | [], h | [_], h | _ :: _ :: _ :: _, h => simp at h
          · split at h
            · rename_i e; subst e
              match r, h with
              | [a], _ => exact .inr (.inl ⟨a, rfl⟩)
              | [], h | _ :: _ :: _, h => simp at h
            · split at h
              · rename_i e; subst e
                match r, h with
                | [a, b, e], _ => exact .inr (.inr (.inr (.inr (.inr (.inr ⟨a, b, e, rfl⟩)))))
                | [], h | [_], h | [_, _], h | _ :: _ :: _ :: _ :: _, h => simp at h
              · split at h
                · rename_i e; subst e
                  match r, h with
                  | [a], _ => exact .inr (.inr (.inl ⟨a, rfl⟩))
                  | [], h | _ :: _ :: _, h => simp at h
                · cases h
end
section
variable {P : Program} {w : World} {K : PySem.W.Frag} {mg : Str → Option Value} {base : Heap} {σ : L2.St} {H : Hp}
theorem szw : szOf "set" = some 3 ∧ szOf "carry" = some 2 ∧ szOf "keep" = some 3 ∧ szOf "either" = some 3 ∧ szOf "again" = some 2 ∧ szOf "call" = some 4 ∧ szOf "end" = some 2 := by decide
theorem stm_sized {c m : Nat} {d : PyData} (h : sizedD d = false) : stmD c m d = false := by
  cases e : stmD c m d with
  | false => rfl
  | true =>
    exfalso
    unfold stmD at e
    split at e
    · split at e
      · rename_i h1; subst h1; simp [sizedD, szw] at h
      · split at e
        · rename_i h1; subst h1; simp [sizedD, szw] at h
        · split at e
          · rename_i h1; subst h1; simp [sizedD, szw] at h
          · cases e
    · split at e
      · rename_i h1; subst h1; simp [sizedD, szw] at h
      · split at e
        · rename_i h1; subst h1; simp [sizedD, szw] at h
        · split at e
          · rename_i h1; subst h1; simp [sizedD, szw] at h
          · cases e
    · split at e
      · rename_i h1; subst h1; simp [sizedD, szw] at h
      · cases e
    · cases e
theorem ev_spSized {te : TE} {E : XK} {v : V} {d : PyData} {ok : Str → Prop} (h : Ev te σ H v) (hd : Dp K H v d) (hw : wordOk ok d) : Ev (tCall (spSized K ok) [] E (tCons te tNil)) σ H (.bl (sizedD d)) :=
  ev_call (ea_cons h ea_nil) fun H1 e Q q _ => ⟨v, d, rfl, dp_ex e d v hd, hw, q⟩
theorem ev_spPair {te : TE} {E : XK} {v : V} {d : PyData} (h : Ev te σ H v) (hd : Dp K H v d) : Ev (tCall (spPair K) [] E (tCons te tNil)) σ H (.bl (pairD d)) :=
  ev_call (ea_cons h ea_nil) fun H1 e Q q _ => ⟨v, d, rfl, dp_ex e d v hd, q⟩
def spStm (K : PySem.W.Frag) (ok : Str → Prop) : Sp := fun vs H Q _ => ∃ (v : V) (d : PyData) (c m n : Nat), vs = [v, .int (c : Int), .int (m : Int)] ∧ Dp K H v d ∧ fit d n = true ∧ wordOk ok d ∧ ∀ H', Ex H H' → Q (.bl (stmD c m d)) H'
theorem ev_spStm {te t1 t2 : TE} {E : XK} {v : V} {d : PyData} {ok : Str → Prop} {c m n : Nat} (h : Ev te σ H v) (h1 : Ev t1 σ H (.int (c : Int))) (h2 : Ev t2 σ H (.int (m : Int))) (hd : Dp K H v d) (hf : fit d n = true) (hw : wordOk ok d) : Ev (tCall (spStm K ok) [] E (tCons te (tCons t1 (tCons t2 tNil)))) σ H (.bl (stmD c m d)) :=
  ev_call (ea_cons h (ea_cons h1 (ea_cons h2 ea_nil))) fun H1 e Q q _ => ⟨v, d, c, m, n, rfl, dp_ex e d v hd, hf, hw, q⟩
theorem ev_at {tl : TE} {a : Addr} {xs : List V} {j : Nat} {v : V} (h : Ev tl σ H (.ref a)) (hs : SqT K H a xs) (hx : xs[j]? = some v) : Ev (tOp (rIxT K) tl (tC (.int (j : Int)))) σ H v := ev_op h ev_c (rv_ixT hs (atI_nat hx))
theorem dp_tup {v : V} {ds : List PyData} (h : Dp K H v (.tuple ds)) : ∃ a xs, v = .ref a ∧ SqT K H a xs ∧ DpAll K H xs ds := by
  cases h with
  | tup s a => exact ⟨_, _, rfl, s, a⟩
theorem dpa1 {xs : List V} {d : PyData} {r : List PyData} (h : DpAll K H xs (d :: r)) : ∃ v vr, xs = v :: vr ∧ Dp K H v d ∧ DpAll K H vr r := by
  cases h with
  | cons a b => exact ⟨_, _, rfl, a, b⟩
theorem dpa0 {xs : List V} (h : DpAll K H xs []) : xs = [] := by cases h; rfl
theorem dp_str {v : V} {x : Str} (h : Dp K H v (.str x)) : v = .str x := by cases h; rfl
/-- the items of a statement of two, three or four -/
theorem items2 {v : V} {x : Str} {a : PyData} (h : Dp K H v (.tuple [.str x, a])) : ∃ t va, v = .ref t ∧ SqT K H t [.str x, va] ∧ Dp K H va a := by
  obtain ⟨t, xs, rfl, s, hx⟩ := dp_tup h
  obtain ⟨v0, r0, rfl, p0, q0⟩ := dpa1 hx
  obtain ⟨v1, r1, rfl, p1, q1⟩ := dpa1 q0
  rw [dpa0 q1, dp_str p0] at s
  exact ⟨t, v1, rfl, s, p1⟩
theorem items3 {v : V} {x : Str} {a b : PyData} (h : Dp K H v (.tuple [.str x, a, b])) : ∃ t va vb, v = .ref t ∧ SqT K H t [.str x, va, vb] ∧ Dp K H va a ∧ Dp K H vb b := by
  obtain ⟨t, xs, rfl, s, hx⟩ := dp_tup h
  obtain ⟨v0, r0, rfl, p0, q0⟩ := dpa1 hx
  obtain ⟨v1, r1, rfl, p1, q1⟩ := dpa1 q0
  obtain ⟨v2, r2, rfl, p2, q2⟩ := dpa1 q1
  rw [dpa0 q2, dp_str p0] at s
  exact ⟨t, v1, v2, rfl, s, p1, p2⟩
theorem items4 {v : V} {x : Str} {a b c : PyData} (h : Dp K H v (.tuple [.str x, a, b, c])) : ∃ t va vb vc, v = .ref t ∧ SqT K H t [.str x, va, vb, vc] ∧ Dp K H va a ∧ Dp K H vb b ∧ Dp K H vc c := by
  obtain ⟨t, xs, rfl, s, hx⟩ := dp_tup h
  obtain ⟨v0, r0, rfl, p0, q0⟩ := dpa1 hx
  obtain ⟨v1, r1, rfl, p1, q1⟩ := dpa1 q0
  obtain ⟨v2, r2, rfl, p2, q2⟩ := dpa1 q1
  obtain ⟨v3, r3, rfl, p3, q3⟩ := dpa1 q2
  rw [dpa0 q3, dp_str p0] at s
  exact ⟨t, v1, v2, v3, rfl, s, p1, p2, p3⟩
theorem fit_items {ds : List PyData} {n : Nat} (h : fit (.tuple ds) n = true) : ∃ m, ∀ d ∈ ds, fit d m = true := by
  obtain ⟨m, _, _, g⟩ := fit_tuple h
  exact ⟨m, fun d hd => fitAll_mem g hd⟩
/-- a chain of tests of the word: what the word is not is passed by -/
theorem q_word {D : Ends} {tr tz : TS} {i : Nat} {x y : Str} (hσ : σ[i]? = some (some (.str x))) (hne : decide (V.str x = V.str y) = false) (k : ∀ H1, Ex H H1 → tz D σ H1) : tSeq (tIfS (tTest (tOp rEq (tVar i) (tC (.str y)))) tr tNext) tz D σ H :=
  q_when (et_test (ev_op (ev_var hσ) ev_c (rv_eq rfl))) (fun h => by rw [hne] at h; cases h) fun _ H1 e => k H1 e
theorem q_word1 {D : Ends} {tr tz : TS} {i : Nat} {x : Str} (hσ : σ[i]? = some (some (.str x))) (k : ∀ H1, Ex H H1 → tr { D with nx := tz D } σ H1) : tSeq (tIfS (tTest (tOp rEq (tVar i) (tC (.str x)))) tr tNext) tz D σ H :=
  q_when (et_test (ev_op (ev_var hσ) ev_c (rv_eq rfl))) (fun _ H1 e => k H1 e) fun h => by rw [decide_eq_true rfl] at h; cases h
theorem ok_is_statement {f : Addr} {fd : FuncData} {k : Nat} {ok : Str → Prop} (F : Fun K "is_statement" "is_statement" sis_statement f fd) (z_isinstance : mg "isinstance" = none) (z_list : mg "list" = none) (Cis_sized : Cal P w K mg base 1 "is_sized" (spSized K ok) []) (Cis_index : Cal P w K mg base 3 "is_index" (spIx K) [])
    (Cis_bit : Cal P w K mg base 3 "is_bit" (spBit K) []) (Cis_row : Cal P w K mg base 3 "is_row" (spRw K) []) (Cis_cell_list : Cal P w K mg base 4 "is_cell_list" (spCl K) []) (Cis_block_pair : Cal P w K mg base 1 "is_block_pair" (spPair K) []) (hk : 4 ≤ k) :
    FnOk P w K mg base CX0 (k + 1) f fd ["value", "cells", "procedures"] (spStm K ok) := by
  have sc := scis_statement
  refine F.ok sc (fun vs H Q E h => ?_) (fun cdv A outer s H vs Q E hr h => ?_)
  · obtain ⟨v, d, c, m, n, rfl, _⟩ := h
    rfl
  · obtain ⟨v, d, c, m, n, rfl, hd, hf, hw, q⟩ := h
    refine ⟨_, (pss_cons (ps_if (pt_not (pt_val (pe_c Cis_sized hr (by omega) (by rfl) (pa_cons (pv 0) pa_nil))))
      (pss_one (ps_ret pe_bl))
      pss_nil)
      (pss_cons (ps_set (i := 3) sc.nd rfl (by first | exact Or.inl rfl | exact Or.inr rfl) (pe_ix ix_tup (pv 0) pe_int (fun _ _ => rfl)))
      (pss_cons (ps_if (pt_cmpR op_eq (pv 3) pe_str (nomark _))
      (pss_one (ps_ret (pe_and (pe_c Cis_index hr (by omega) (by rfl) (pa_cons (pe_ix ix_tup (pv 0) pe_int (fun _ _ => rfl)) (pa_cons (pv 1) pa_nil))) (pe_one (pe_c Cis_row hr (by omega) (by rfl) (pa_cons (pe_ix ix_tup (pv 0) pe_int (fun _ _ => rfl)) (pa_cons (pv 1) pa_nil)))))))
      pss_nil)
      (pss_cons (ps_if (pt_cmpR op_eq (pv 3) pe_str (nomark _))
      (pss_one (ps_ret (pe_c Cis_row hr (by omega) (by rfl) (pa_cons (pe_ix ix_tup (pv 0) pe_int (fun _ _ => rfl)) (pa_cons (pv 1) pa_nil)))))
      pss_nil)
      (pss_cons (ps_if (pt_cmpR op_eq (pv 3) pe_str (nomark _))
      (pss_one (ps_ret (pe_and (pe_c Cis_cell_list hr (by omega) (by rfl) (pa_cons (pe_ix ix_tup (pv 0) pe_int (fun _ _ => rfl)) (pa_cons (pv 1) pa_nil))) (pe_one (pe_callB call_isi (by rfl) z_isinstance (by decide +kernel) (pa_cons (pe_ix ix_tup (pv 0) pe_int (fun _ _ => rfl)) (pa_cons (pe_bltn (v := .ty "list") (by rfl) z_list (by decide +kernel) rfl) pa_nil)))))))
      pss_nil)
      (pss_cons (ps_if (pt_cmpR op_eq (pv 3) pe_str (nomark _))
      (pss_one (ps_ret (pe_and (pe_callB call_isi (by rfl) z_isinstance (by decide +kernel) (pa_cons (pe_ix ix_tup (pv 0) pe_int (fun _ _ => rfl)) (pa_cons (pe_bltn (v := .ty "list") (by rfl) z_list (by decide +kernel) rfl) pa_nil))) (pe_one (pe_callB call_isi (by rfl) z_isinstance (by decide +kernel) (pa_cons (pe_ix ix_tup (pv 0) pe_int (fun _ _ => rfl)) (pa_cons (pe_bltn (v := .ty "list") (by rfl) z_list (by decide +kernel) rfl) pa_nil)))))))
      pss_nil)
      (pss_cons (ps_if (pt_cmpR op_eq (pv 3) pe_str (nomark _))
      (pss_one (ps_ret (pe_callB call_isi (by rfl) z_isinstance (by decide +kernel) (pa_cons (pe_ix ix_tup (pv 0) pe_int (fun _ _ => rfl)) (pa_cons (pe_bltn (v := .ty "list") (by rfl) z_list (by decide +kernel) rfl) pa_nil)))))
      pss_nil)
      (pss_cons (ps_if (pt_cmpR op_eq (pv 3) pe_str (nomark _))
      (pss_one (ps_ret (pe_and (pe_c Cis_index hr (by omega) (by rfl) (pa_cons (pe_ix ix_tup (pv 0) pe_int (fun _ _ => rfl)) (pa_cons (pv 2) pa_nil))) (pe_and (pe_c Cis_row hr (by omega) (by rfl) (pa_cons (pe_ix ix_tup (pv 0) pe_int (fun _ _ => rfl)) (pa_cons (pv 1) pa_nil))) (pe_one (pe_c Cis_block_pair hr (by omega) (by rfl) (pa_cons (pe_ix ix_tup (pv 0) pe_int (fun _ _ => rfl)) pa_nil)))))))
      pss_nil)
      (pss_one (ps_ret (pe_c Cis_bit hr (by omega) (by rfl) (pa_cons (pe_ix ix_tup (pv 0) pe_int (fun _ _ => rfl)) pa_nil)))))))))))), ?_⟩
    refine q_when (et_not (et_B (ev_spSized (ev_var rfl) hd hw))) (fun hb H1 e1 => ?_) (fun hb H1 e1 => ?_)
    · rw [Bool.not_eq_true'] at hb
      rw [stm_sized hb] at q
      exact s_ret ev_c fun H2 e2 => q H2 (e1.trans e2)
    rw [Bool.not_eq_false'] at hb
    have hd1 := dp_ex e1 _ _ hd
    rcases sized_cases hb with ⟨a, rfl⟩ | ⟨a, rfl⟩ | ⟨a, rfl⟩ | ⟨a, b, rfl⟩ | ⟨a, b, rfl⟩ | ⟨a, b, rfl⟩ | ⟨a, b, e, rfl⟩
    · -- carry
      obtain ⟨t, va, rfl, s, pa⟩ := items2 hd1
      obtain ⟨n', fa⟩ := fit_items hf
      refine q_asg (ev_at (j := 0) (ev_var rfl) s rfl) fun H2 e2 => ?_
      refine q_word rfl (by decide) fun H3 e3 => ?_
      refine q_word1 rfl fun H4 e4 => ?_
      have e24 := (e2.trans e3).trans e4
      exact s_ret (ev_spRw (ev_at (j := 1) (ev_var rfl) (ex_t e24 s) rfl) (ev_var rfl) (dp_ex e24 _ _ pa) (fa a (by simp))) fun H5 e5 => q H5 (e1.trans (e24.trans e5))
    · -- again
      obtain ⟨t, va, rfl, s, pa⟩ := items2 hd1
      refine q_asg (ev_at (j := 0) (ev_var rfl) s rfl) fun H2 e2 => ?_
      refine q_word rfl (by decide) fun H3 e3 => ?_
      refine q_word rfl (by decide) fun H4 e4 => ?_
      refine q_word rfl (by decide) fun H5 e5 => ?_
      refine q_word rfl (by decide) fun H6 e6 => ?_
      refine q_word1 rfl fun H7 e7 => ?_
      have e27 := ((((e2.trans e3).trans e4).trans e5).trans e6).trans e7
      refine s_ret (ev_isi (dp_ex e27 _ _ pa) (ev_at (j := 1) (ev_var rfl) (ex_t e27 s) rfl) (kitB_isa a).2.2.2.1) fun H8 e8 => ?_
      rw [← listD_isa]
      exact q H8 (e1.trans (e27.trans e8))
    · -- end
      obtain ⟨t, va, rfl, s, pa⟩ := items2 hd1
      refine q_asg (ev_at (j := 0) (ev_var rfl) s rfl) fun H2 e2 => ?_
      refine q_word rfl (by decide) fun H3 e3 => ?_
      refine q_word rfl (by decide) fun H4 e4 => ?_
      refine q_word rfl (by decide) fun H5 e5 => ?_
      refine q_word rfl (by decide) fun H6 e6 => ?_
      refine q_word rfl (by decide) fun H7 e7 => ?_
      refine q_word rfl (by decide) fun H8 e8 => ?_
      have e28 := (((((e2.trans e3).trans e4).trans e5).trans e6).trans e7).trans e8
      exact s_ret (ev_spBit (ev_at (j := 1) (ev_var rfl) (ex_t e28 s) rfl) (dp_ex e28 _ _ pa)) fun H9 e9 => q H9 (e1.trans (e28.trans e9))
    · -- set
      obtain ⟨t, va, vb, rfl, s, pa, pb⟩ := items3 hd1
      obtain ⟨n', fa⟩ := fit_items hf
      refine q_asg (ev_at (j := 0) (ev_var rfl) s rfl) fun H2 e2 => ?_
      refine q_word1 rfl fun H3 e3 => ?_
      have e23 := e2.trans e3
      exact s_ret (ev_andV (ev_spIx (ev_at (j := 1) (ev_var rfl) (ex_t e23 s) rfl) (ev_var rfl) (dp_ex e23 _ _ pa)) fun _ => ev_spRw (ev_at (j := 2) (ev_var rfl) (ex_t e23 s) rfl) (ev_var rfl) (dp_ex e23 _ _ pb) (fa b (by simp))) fun H4 e4 => q H4 (e1.trans (e23.trans e4))
    · -- keep
      obtain ⟨t, va, vb, rfl, s, pa, pb⟩ := items3 hd1
      obtain ⟨n', fa⟩ := fit_items hf
      refine q_asg (ev_at (j := 0) (ev_var rfl) s rfl) fun H2 e2 => ?_
      refine q_word rfl (by decide) fun H3 e3 => ?_
      refine q_word rfl (by decide) fun H4 e4 => ?_
      refine q_word1 rfl fun H5 e5 => ?_
      have e25 := ((e2.trans e3).trans e4).trans e5
      refine s_ret (ev_andV (ev_spCl (ev_at (j := 1) (ev_var rfl) (ex_t e25 s) rfl) (ev_var rfl) (dp_ex e25 _ _ pa) (fa a (by simp))) fun _ => ev_isi (dp_ex e25 _ _ pb) (ev_at (j := 2) (ev_var rfl) (ex_t e25 s) rfl) (kitB_isa b).2.2.2.1) fun H6 e6 => ?_
      rw [← listD_isa]
      exact q H6 (e1.trans (e25.trans e6))
    · -- either
      obtain ⟨t, va, vb, rfl, s, pa, pb⟩ := items3 hd1
      refine q_asg (ev_at (j := 0) (ev_var rfl) s rfl) fun H2 e2 => ?_
      refine q_word rfl (by decide) fun H3 e3 => ?_
      refine q_word rfl (by decide) fun H4 e4 => ?_
      refine q_word rfl (by decide) fun H5 e5 => ?_
      refine q_word1 rfl fun H6 e6 => ?_
      have e26 := (((e2.trans e3).trans e4).trans e5).trans e6
      refine s_ret (ev_andV (ev_isi (dp_ex e26 _ _ pa) (ev_at (j := 1) (ev_var rfl) (ex_t e26 s) rfl) (kitB_isa a).2.2.2.1) fun _ => ev_isi (dp_ex e26 _ _ pb) (ev_at (j := 2) (ev_var rfl) (ex_t e26 s) rfl) (kitB_isa b).2.2.2.1) fun H7 e7 => ?_
      rw [← listD_isa, ← listD_isa]
      exact q H7 (e1.trans (e26.trans e7))
    · -- call
      obtain ⟨t, va, vb, ve, rfl, s, pa, pb, pe⟩ := items4 hd1
      obtain ⟨n', fa⟩ := fit_items hf
      refine q_asg (ev_at (j := 0) (ev_var rfl) s rfl) fun H2 e2 => ?_
      refine q_word rfl (by decide) fun H3 e3 => ?_
      refine q_word rfl (by decide) fun H4 e4 => ?_
      refine q_word rfl (by decide) fun H5 e5 => ?_
      refine q_word rfl (by decide) fun H6 e6 => ?_
      refine q_word rfl (by decide) fun H7 e7 => ?_
      refine q_word1 rfl fun H8 e8 => ?_
      have e28 := (((((e2.trans e3).trans e4).trans e5).trans e6).trans e7).trans e8
      exact s_ret (ev_andV (ev_spIx (ev_at (j := 1) (ev_var rfl) (ex_t e28 s) rfl) (ev_var rfl) (dp_ex e28 _ _ pa)) fun _ => ev_andV (ev_spRw (ev_at (j := 2) (ev_var rfl) (ex_t e28 s) rfl) (ev_var rfl) (dp_ex e28 _ _ pb) (fa b (by simp))) fun _ => ev_spPair (ev_at (j := 3) (ev_var rfl) (ex_t e28 s) rfl) (dp_ex e28 _ _ pe)) fun H9 e9 => q H9 (e1.trans (e28.trans e9))
end
abbrev sentries : Stmt := topS 26
theorem scentries : FnScope ["block", "path", "index"] ["block", "path"] (defScope sentries) := ⟨rfl, rfl, rfl, by decide +kernel, rfl, by decide +kernel, by decide +kernel⟩
abbrev sfits : Stmt := topS 27
theorem scfits : FnScope ["value", "path", "cells", "procedures", "level"] ["value", "path", "cells", "procedures"] (defScope sfits) := ⟨rfl, rfl, rfl, by decide +kernel, rfl, by decide +kernel, by decide +kernel⟩
abbrev sfirst_fault : Stmt := topS 28
theorem scfirst_fault : FnScope ["body", "cells", "procedures", "waiting", "many", "path", "value", "blocks", "number"] ["body", "cells", "procedures"] (defScope sfirst_fault) := ⟨rfl, rfl, rfl, by decide +kernel, rfl, by decide +kernel, by decide +kernel⟩
open StX (tStar pa_star)
section
variable {X : Cx}
theorem pa_starK {K : PySem.W.Frag} {e : Expr} {es : List Expr} {te : TE} {t : TA} {p : Pos} (hK : X.K = K) (he : PE X e te) (hr : PA X es t) (hs : starEach (.Starred e p :: es) X.env = (true, eval e X.env) :: starEach es X.env := by rfl) : PA X (.Starred e p :: es) (tStar K te t) := by
  subst hK
  exact pa_star he hr hs
end
section
variable {P : Program} {w : World} {K : PySem.W.Frag} {mg : Str → Option Value} {base : Heap} {σ : L2.St} {H H' : Hp}
/-- the blocks of a statement, new list -/
def spBlocks (K : PySem.W.Frag) : Sp := fun vs H Q _ => ∃ (v : V) (d : PyData) (c m : Nat) (H0 : Hp), vs = [v] ∧ Ex H0 H ∧ Dp K H0 v d ∧ stmD c m d = true ∧ ∀ B bs H', H B = none → Ex H H' → H' B = some (.lst bs) → DpAll K H0 bs (blocksD d) → Q (.ref B) H'
theorem stm_yes {c m : Nat} {d : PyData} (h : stmD c m d = true) : sizedD d = true := by
  cases e : sizedD d with
  | true => rfl
  | false => rw [stm_sized e] at h; cases h
theorem isa_listD {d : PyData} (h : listD d = true) : isa d "list" = true := by rw [← listD_isa]; exact h
theorem pair_t {e : PyData} (h : pairD e = true) : ∃ x y, e = .list [x, y] := by
  match e, h with
  | .list [x, y], _ => exact ⟨x, y, rfl⟩
theorem dp_lst {v : V} {ds : List PyData} (h : Dp K H v (.list ds)) : ∃ a xs, v = .ref a ∧ SqL K H a xs ∧ DpAll K H xs ds := by
  cases h with
  | lst s a => exact ⟨_, _, rfl, s, a⟩
theorem ok_blocks_of {f : Addr} {fd : FuncData} {k : Nat} (F : Fun K "blocks_of" "blocks_of" sblocks_of f fd) : FnOk P w K mg base CX0 (k + 1) f fd ["statement"] (spBlocks K) := by
  have sc := scblocks_of
  refine F.ok sc (fun vs H Q E h => ?_) (fun cdv A outer s H vs Q E hr h => ?_)
  · obtain ⟨v, d, c, m, H0, rfl, _⟩ := h
    rfl
  · obtain ⟨v, d, c, m, H0, rfl, e0, hd, hst, q⟩ := h
    refine ⟨_, (pss_cons (ps_set (i := 1) sc.nd rfl (by first | exact Or.inl rfl | exact Or.inr rfl) (pe_ix ix_tup (pv 0) pe_int (fun _ _ => rfl)))
      (pss_cons (ps_if (pt_cmpR op_eq (pv 1) pe_str (nomark _))
      (pss_one (ps_ret (pe_lst (pa_cons (pe_ix ix_tup (pv 0) pe_int (fun _ _ => rfl)) pa_nil))))
      pss_nil)
      (pss_cons (ps_if (pt_cmpR op_eq (pv 1) pe_str (nomark _))
      (pss_one (ps_ret (pe_lst (pa_cons (pe_ix ix_tup (pv 0) pe_int (fun _ _ => rfl)) (pa_cons (pe_ix ix_tup (pv 0) pe_int (fun _ _ => rfl)) pa_nil)))))
      pss_nil)
      (pss_cons (ps_if (pt_cmpR op_eq (pv 1) pe_str (nomark _))
      (pss_one (ps_ret (pe_lst (pa_cons (pe_ix ix_tup (pv 0) pe_int (fun _ _ => rfl)) pa_nil))))
      pss_nil)
      (pss_cons (ps_if (pt_cmpR op_eq (pv 1) pe_str (nomark _))
      (pss_one (ps_ret (pe_lst (pa_cons (pe_ix ix_list (pe_ix ix_tup (pv 0) pe_int (fun _ _ => rfl)) pe_int (fun _ _ => rfl)) (pa_cons (pe_ix ix_list (pe_ix ix_tup (pv 0) pe_int (fun _ _ => rfl)) pe_int (fun _ _ => rfl)) pa_nil)))))
      pss_nil)
      (pss_one (ps_ret (pe_lst pa_nil)))))))), ?_⟩
    rcases sized_cases (stm_yes hst) with ⟨a, rfl⟩ | ⟨a, rfl⟩ | ⟨a, rfl⟩ | ⟨a, b, rfl⟩ | ⟨a, b, rfl⟩ | ⟨a, b, rfl⟩ | ⟨a, b, e, rfl⟩
    · obtain ⟨t, va, rfl, s, pa⟩ := items2 hd
      replace s := ex_t e0 s
      refine q_asg (ev_at (j := 0) (ev_var rfl) s rfl) fun H2 e2 => ?_
      refine q_word rfl (by decide) fun H3 e3 => ?_
      refine q_word rfl (by decide) fun H4 e4 => ?_
      refine q_word rfl (by decide) fun H5 e5 => ?_
      refine q_word rfl (by decide) fun H6 e6 => ?_
      have e26 := (((e2.trans e3).trans e4).trans e5).trans e6
      exact s_retL (el_lst ea_nil (by decide)) fun B H7 nB e7 hB => q B [] H7 (new_ex e26 nB) (e26.trans e7) hB .nil
    · obtain ⟨t, va, rfl, s, pa⟩ := items2 hd
      replace s := ex_t e0 s
      refine q_asg (ev_at (j := 0) (ev_var rfl) s rfl) fun H2 e2 => ?_
      refine q_word rfl (by decide) fun H3 e3 => ?_
      refine q_word rfl (by decide) fun H4 e4 => ?_
      refine q_word1 rfl fun H5 e5 => ?_
      have e25 := ((e2.trans e3).trans e4).trans e5
      exact s_retL (el_lst (ea_cons (ev_at (j := 1) (ev_var rfl) (ex_t e25 s) rfl) ea_nil) (by show 1 ≤ 100000; decide)) fun B H7 nB e7 hB => q B [va] H7 (new_ex e25 nB) (e25.trans e7) hB (.cons pa .nil)
    · obtain ⟨t, va, rfl, s, pa⟩ := items2 hd
      replace s := ex_t e0 s
      refine q_asg (ev_at (j := 0) (ev_var rfl) s rfl) fun H2 e2 => ?_
      refine q_word rfl (by decide) fun H3 e3 => ?_
      refine q_word rfl (by decide) fun H4 e4 => ?_
      refine q_word rfl (by decide) fun H5 e5 => ?_
      refine q_word rfl (by decide) fun H6 e6 => ?_
      have e26 := (((e2.trans e3).trans e4).trans e5).trans e6
      exact s_retL (el_lst ea_nil (by decide)) fun B H7 nB e7 hB => q B [] H7 (new_ex e26 nB) (e26.trans e7) hB .nil
    · obtain ⟨t, va, vb, rfl, s, pa, pb⟩ := items3 hd
      replace s := ex_t e0 s
      refine q_asg (ev_at (j := 0) (ev_var rfl) s rfl) fun H2 e2 => ?_
      refine q_word rfl (by decide) fun H3 e3 => ?_
      refine q_word rfl (by decide) fun H4 e4 => ?_
      refine q_word rfl (by decide) fun H5 e5 => ?_
      refine q_word rfl (by decide) fun H6 e6 => ?_
      have e26 := (((e2.trans e3).trans e4).trans e5).trans e6
      exact s_retL (el_lst ea_nil (by decide)) fun B H7 nB e7 hB => q B [] H7 (new_ex e26 nB) (e26.trans e7) hB .nil
    · obtain ⟨t, va, vb, rfl, s, pa, pb⟩ := items3 hd
      replace s := ex_t e0 s
      refine q_asg (ev_at (j := 0) (ev_var rfl) s rfl) fun H2 e2 => ?_
      refine q_word1 rfl fun H3 e3 => ?_
      have e23 := e2.trans e3
      exact s_retL (el_lst (ea_cons (ev_at (j := 2) (ev_var rfl) (ex_t e23 s) rfl) ea_nil) (by show 1 ≤ 100000; decide)) fun B H7 nB e7 hB => q B [vb] H7 (new_ex e23 nB) (e23.trans e7) hB (.cons pb .nil)
    · obtain ⟨t, va, vb, rfl, s, pa, pb⟩ := items3 hd
      replace s := ex_t e0 s
      refine q_asg (ev_at (j := 0) (ev_var rfl) s rfl) fun H2 e2 => ?_
      refine q_word rfl (by decide) fun H3 e3 => ?_
      refine q_word1 rfl fun H4 e4 => ?_
      have e24 := (e2.trans e3).trans e4
      exact s_retL (el_lst (ea_cons (ev_at (j := 1) (ev_var rfl) (ex_t e24 s) rfl) (ea_cons (ev_at (j := 2) (ev_var rfl) (ex_t e24 s) rfl) ea_nil)) (by show 2 ≤ 100000; decide)) fun B H7 nB e7 hB => q B [va, vb] H7 (new_ex e24 nB) (e24.trans e7) hB (.cons pa (.cons pb .nil))
    · obtain ⟨t, va, vb, ve, rfl, s, pa, pb, pe⟩ := items4 hd
      replace s := ex_t e0 s
      have hp : pairD e = true := by
        have : (btw 0 ((m : Int) - 1) a && (rowD c b && pairD e)) = true := hst
        rw [Bool.and_eq_true, Bool.and_eq_true] at this
        exact this.2.2
      obtain ⟨x, y, rfl⟩ := pair_t hp
      obtain ⟨L, xs, rfl, hs, hx⟩ := dp_lst pe
      obtain ⟨vx, r1, rfl, px, q1⟩ := dpa1 hx
      obtain ⟨vy, r2, rfl, py, q2⟩ := dpa1 q1
      rw [dpa0 q2] at hs
      replace hs := ex_l e0 hs
      refine q_asg (ev_at (j := 0) (ev_var rfl) s rfl) fun H2 e2 => ?_
      refine q_word rfl (by decide) fun H3 e3 => ?_
      refine q_word rfl (by decide) fun H4 e4 => ?_
      refine q_word rfl (by decide) fun H5 e5 => ?_
      refine q_word1 rfl fun H6 e6 => ?_
      have e26 := (((e2.trans e3).trans e4).trans e5).trans e6
      have sL := ex_l e26 hs
      exact s_retL (el_lst (ea_cons (ev_op (ev_at (j := 3) (ev_var rfl) (ex_t e26 s) rfl) ev_c (rv_ixL sL (atI_nat (j := 0) rfl))) (ea_cons (ev_op (ev_at (j := 3) (ev_var rfl) (ex_t e26 s) rfl) ev_c (rv_ixL sL (atI_nat (j := 1) rfl))) ea_nil)) (by show 2 ≤ 100000; decide)) fun B H7 nB e7 hB => q B [vx, vy] H7 (new_ex e26 nB) (e26.trans e7) hB (.cons px (.cons py .nil))
end
section
variable {P : Program} {w : World} {K : PySem.W.Frag} {mg : Str → Option Value} {base : Heap} {σ : L2.St} {H H' : Hp}
/-- x is a tuple of a path and a value -/
def EntT (K : PySem.W.Frag) (H : Hp) (x : V) (e : List Int × V) : Prop := ∃ t p, x = .ref t ∧ SqT K H t [.ref p, e.2] ∧ SqT K H p (e.1.map V.int)
theorem sqT_updL {a D : Addr} {xs l l' : List V} (h : SqT K H a xs) (hD : H D = some (.lst l)) : SqT K (upd H D (.lst l')) a xs := by
  rcases h with (h | ⟨o, h⟩) | h
  · exact .inl (.inl (by rw [upd_ne (ne_of h hD (by intro z; cases z))]; exact h))
  · exact .inl (.inr ⟨o, by rw [upd_ne (ne_of h hD (by intro z; cases z))]; exact h⟩)
  · exact .inr h
theorem entT_updL {D : Addr} {l l' : List V} {x : V} {e : List Int × V} (h : EntT K H x e) (hD : H D = some (.lst l)) : EntT K (upd H D (.lst l')) x e := by
  obtain ⟨t, p, rfl, h1, h2⟩ := h
  exact ⟨t, p, rfl, sqT_updL h1 hD, sqT_updL h2 hD⟩
theorem entT_ex {x : V} {e : List Int × V} (h : EntT K H x e) (k : Ex H H') : EntT K H' x e := by
  obtain ⟨t, p, rfl, h1, h2⟩ := h
  exact ⟨t, p, rfl, ex_t k h1, ex_t k h2⟩
abbrev Ents (K : PySem.W.Frag) (H : Hp) : List V → List (List Int × V) → Prop := Paired (EntT K H)
theorem ents_updL {D : Addr} {l l' : List V} {xs : List V} {es : List (List Int × V)} (h : Ents K H xs es) (hD : H D = some (.lst l)) : Ents K (upd H D (.lst l')) xs es := Paired.mapP h fun _ _ x => entT_updL x hD
theorem ents_ex {xs : List V} {es : List (List Int × V)} (h : Ents K H xs es) (k : Ex H H') : Ents K H' xs es := Paired.mapP h fun _ _ x => entT_ex x k
theorem paired_app {α β : Type} {F : α → β → Prop} : ∀ {a c : List α} {b d : List β}, Paired F a b → Paired F c d → Paired F (a ++ c) (b ++ d)
  | _, _, _, _, .nil, h => h
  | _, _, _, _, .cons x y, h => .cons x (paired_app y h)
theorem paired_len {α β : Type} {F : α → β → Prop} : ∀ {a : List α} {b : List β}, Paired F a b → a.length = b.length
  | _, _, .nil => rfl
  | _, _, .cons _ y => by rw [List.length_cons, List.length_cons, paired_len y]
/-- the entries of a block, the last first -/
def entsV (vs : List V) (path : List Int) : List (List Int × V) := (List.range vs.length).map fun i => (path ++ [((vs.length - 1 - i : Nat) : Int)], vs.getD (vs.length - 1 - i) .non)
def spEntries (K : PySem.W.Frag) : Sp := fun vs H Q _ => ∃ (b p : Addr) (xs : List V) (path : List Int), vs = [.ref b, .ref p] ∧ SqL K H b xs ∧ SqT K H p (path.map V.int) ∧ xs.length ≤ 10000 ∧ path.length ≤ 1000 ∧
  ∀ D ys H', H D = none → Ex H H' → H' D = some (.lst ys) → Ents K H' ys (entsV xs path) → Q (.ref D) H'
theorem ok_entries {f : Addr} {fd : FuncData} {k : Nat} (F : Fun K "entries" "entries" sentries f fd) (z_range : mg "range" = none) (z_reversed : mg "reversed" = none) (z_len : mg "len" = none) : FnOk P w K mg base CX0 (k + 1) f fd ["block", "path"] (spEntries K) := by
  have sc := scentries
  refine F.ok sc (fun vs H Q E h => ?_) (fun cdv A outer s H vs Q E hr h => ?_)
  · obtain ⟨b, p, xs, path, rfl, _⟩ := h
    rfl
  · obtain ⟨b, p, xs, path, rfl, hb, hp, hl, hpl, q⟩ := h
    refine ⟨_, (pss_one (ps_ret (pe_lc (own := [("index", 2)]) (by rfl) sc.nd (pi_revR (by rfl) z_reversed (prg_1 (by rfl) z_range (pe_callB call_len_seq (by rfl) z_len (by decide +kernel) (pa_cons (pv 0) pa_nil)))) (blkOk_by (own := [("index", 2)]) (N := ["block", "path", "index"]) (sc := defScope sentries) (by decide +kernel)) (fun _ _ _ _ _ => (pg_name (i := 2) sc.nd rfl (by first | exact Or.inl rfl | exact Or.inr rfl))) (fun _ _ _ _ _ => pts_nil) (fun _ _ _ _ _ => (pe_tup (pa_cons (pe_tup (pa_starK (K := K) rfl (pv 1) (pa_cons (pv 2) pa_nil))) (pa_cons (pe_ix (ix_list : IxR _ (rIxL K)) (pv 0) (pv 2) (fun _ _ => rfl)) pa_nil))))))), ?_⟩
    refine s_retR ?_
    refine ⟨.ref b, rfl, b, xs, rfl, .inl hb, (xs.length : Int), rfl, by omega, by omega, by omega, by omega, fun D nD => ?_⟩
    have hn : ((xs.length : Int) - 0).toNat = xs.length := by omega
    rw [hn]
    have wk := (walk_rangeC (lo := (0 : Int) + ((xs.length : Nat) : Int) - 1) (c := -1) (n := xs.length)).mono (G' := fun _ => True) (Y' := fun i H x H' => H' = H ∧ x = .int ((xs.length - 1 - i : Nat) : Int)) (fun _ _ => trivial) (fun i H x H' hi _ y => ⟨y.1, by rw [y.2]; exact congrArg V.int (by omega)⟩)
    refine lc_it wk (fun i H' => ∃ ys, Ex H H' ∧ H' D = some (.lst ys) ∧ Ents K H' ys ((entsV xs path).take i)) ⟨[], Ex.new nD, upd_same, .nil⟩ (fun _ _ _ _ => trivial) (fun i x H' H'' hi hP y => ?_) (fun H' hP => ?_)
    · obtain ⟨ys, e, hD, he⟩ := hP
      obtain ⟨rfl, rfl⟩ := y
      have hj : xs.length - 1 - i < xs.length := by omega
      show wipe ((wipe _ _).set 2 (some (.int ((xs.length - 1 - i : Nat) : Int)))) _ = wipe _ _ ∧ _
      refine ⟨rfl, .ref p, rfl, p, path.map V.int, rfl, .inl (ex_t e hp), .int ((xs.length - 1 - i : Nat) : Int), rfl, ?_, fun T nT => ?_⟩
      · have := small1000 (n := 1000) (Nat.le_refl _)
        have h2 := sz_of (n := (path.map V.int ++ [V.int ((xs.length - 1 - i : Nat) : Int)]).length) (by rw [List.length_append, List.length_map, List.length_singleton]; omega)
        exact h2
      have eT := Ex.new (o := .tup (path.map V.int ++ [V.int ((xs.length - 1 - i : Nat) : Int)])) nT
      refine ⟨.ref b, rfl, .int ((xs.length - 1 - i : Nat) : Int), rfl, b, xs, _, xs.getD (xs.length - 1 - i) .non, rfl, rfl, ex_l (e.trans eT) hb, atI_nat (by rw [List.getElem?_eq_getElem hj, List.getD_eq_getElem?_getD, List.getElem?_eq_getElem hj]; rfl), by show 2 ≤ sizeLine; decide, fun U nU => ?_⟩
      have eU := Ex.new (o := .tup [.ref T, xs.getD (xs.length - 1 - i) .non]) nU
      have e2 := (e.trans eT).trans eU
      have lys := paired_len he
      refine ⟨ys, eU _ _ (eT _ _ hD), ?_, ys ++ [.ref U], e2.mut nD, upd_same, ?_⟩
      · rw [lys, List.length_take]; exact sz_lt (by rw [entsV, List.length_map, List.length_range]; omega)
      · rw [List.take_add_one, show (entsV xs path)[i]? = some (path ++ [((xs.length - 1 - i : Nat) : Int)], xs.getD (xs.length - 1 - i) .non) by rw [entsV, List.getElem?_map, List.getElem?_range hi]; rfl]
        refine paired_app (ents_updL (ents_ex he (eT.trans eU)) (eU _ _ (eT _ _ hD))) (.cons ?_ .nil)
        refine entT_updL (l := ys) ⟨U, T, rfl, st_of upd_same, st_of (eU _ _ (by rw [upd_same, List.map_append]; rfl))⟩ (eU _ _ (eT _ _ hD))
    · obtain ⟨ys, e, hD, he⟩ := hP
      rw [List.take_of_length_le (by rw [entsV, List.length_map, List.length_range]; omega)] at he
      exact q D ys H' nD e hD he
end
/-! ### reading a body with a stack -/
def lastI (p : List Int) : Int := p.getD (p.length - 1) 0
def fitsD (c m : Nat) (p : List Int) (d : PyData) : Bool := !(decide (8 ≤ lastI p) || !stmD c m d) && (decide (p.length / 2 < 3) || (blocksD d).isEmpty)
def elems : PyData → List PyData
  | .list ds => ds
  | _ => []
/-- the items of a block in order, with their paths -/
def itemsD (p : List Int) (ds : List PyData) : List (List Int × PyData) := (List.range ds.length).map fun (i : Nat) => (p ++ [(i : Int)], ds.getD i .none)
/-- the blocks from the k-th on -/
def flatD (p : List Int) : Nat → List PyData → List (List Int × PyData)
  | _, [] => []
  | k, b :: r => itemsD (p ++ [(k : Int)]) (elems b) ++ flatD p (k + 1) r
def ffD (c m : Nat) : Nat → List (List Int × PyData) → Nat → Option (List Int)
  | 0, _, _ => none
  | _ + 1, [], _ => none
  | f + 1, (p, d) :: st, many => if (decide (12 < many + 1) || !fitsD c m p d) = true then some p else ffD c m f (flatD p 0 (blocksD d) ++ st) (many + 1)
def firstD (c m : Nat) (ds : List PyData) : Option (List Int) := ffD c m 13 (itemsD [] ds) 0
mutual
/-- every tuple's first word is known -/
def allW (ok : Str → Prop) : PyData → Prop
  | .list xs => allWs ok xs
  | .tuple xs => wordOk ok (.tuple xs) ∧ allWs ok xs
  | _ => True
def allWs (ok : Str → Prop) : List PyData → Prop
  | [] => True
  | x :: xs => allW ok x ∧ allWs ok xs
end
theorem allWs_mem {ok : Str → Prop} : ∀ {xs : List PyData} {x : PyData}, allWs ok xs → x ∈ xs → allW ok x
  | y :: r, x, h, hm => by
    rw [allWs] at h
    rcases List.mem_cons.mp hm with rfl | hm
    · exact h.1
    · exact allWs_mem h.2 hm
theorem allW_word {ok : Str → Prop} {d : PyData} (h : allW ok d) : wordOk ok d := by
  cases d with
  | tuple xs => rw [allW] at h; exact h.1
  | _ => trivial
/-- a statement's blocks are lists, and what stands in them is as good -/
theorem blocks_good {c m : Nat} {d : PyData} {ok : Str → Prop} (h : stmD c m d = true) (hf : ∃ n, fit d n = true) (hw : allW ok d) : ∀ b ∈ blocksD d, ∃ ds, b = .list ds ∧ ds.length ≤ 10000 ∧ (∃ n, ∀ e ∈ ds, fit e n = true) ∧ ∀ e ∈ ds, allW ok e := by
  obtain ⟨n, hf⟩ := hf
  have key : ∀ b : PyData, listD b = true → (∃ n, fit b n = true) → allW ok b → ∃ ds, b = .list ds ∧ ds.length ≤ 10000 ∧ (∃ n, ∀ e ∈ ds, fit e n = true) ∧ ∀ e ∈ ds, allW ok e := fun b hb hfb hwb => by
    obtain ⟨n, hfb⟩ := hfb
    cases b with
    | list ds =>
      obtain ⟨m, _, hl, hg⟩ := fit_list hfb
      rw [allW] at hwb
      exact ⟨ds, rfl, hl, ⟨m, fun e he => fitAll_mem hg he⟩, fun e he => allWs_mem hwb he⟩
    | _ => cases hb
  have items : ∀ xs : List PyData, d = .tuple xs → (∃ k, ∀ e ∈ xs, fit e k = true) ∧ ∀ e ∈ xs, allW ok e := fun xs e => by
    subst e
    obtain ⟨k, _, _, hg⟩ := fit_tuple hf
    rw [allW] at hw
    exact ⟨⟨k, fun e he => fitAll_mem hg he⟩, fun e he => allWs_mem hw.2 he⟩
  rcases sized_cases (stm_yes h) with ⟨a, rfl⟩ | ⟨a, rfl⟩ | ⟨a, rfl⟩ | ⟨a, b, rfl⟩ | ⟨a, b, rfl⟩ | ⟨a, b, rfl⟩ | ⟨a, b, e, rfl⟩
  · intro b hb
    have hb : b ∈ ([] : List PyData) := hb
    cases hb
  · obtain ⟨⟨k, hk⟩, hw2⟩ := items _ rfl
    intro b hb
    have hb : b ∈ [a] := hb
    rw [List.mem_singleton.mp hb]
    have hl : listD a = true := h
    exact key a hl ⟨k, hk a (by simp)⟩ (hw2 a (by simp))
  · intro b hb
    have hb : b ∈ ([] : List PyData) := hb
    cases hb
  · intro y hy
    have hy : y ∈ ([] : List PyData) := hy
    cases hy
  · obtain ⟨⟨k, hk⟩, hw2⟩ := items _ rfl
    intro y hy
    have hy : y ∈ [b] := hy
    rw [List.mem_singleton.mp hy]
    have hl : (cellsD c a && listD b) = true := h
    rw [Bool.and_eq_true] at hl
    exact key b hl.2 ⟨k, hk b (by simp)⟩ (hw2 b (by simp))
  · obtain ⟨⟨k, hk⟩, hw2⟩ := items _ rfl
    intro y hy
    have hy : y ∈ [a, b] := hy
    have hl : (listD a && listD b) = true := h
    rw [Bool.and_eq_true] at hl
    rcases List.mem_cons.mp hy with rfl | hy
    · exact key _ hl.1 ⟨k, hk _ (by simp)⟩ (hw2 _ (by simp))
    · rw [List.mem_singleton.mp hy]
      exact key b hl.2 ⟨k, hk b (by simp)⟩ (hw2 b (by simp))
  · obtain ⟨⟨k, hk⟩, hw2⟩ := items _ rfl
    have hl : (btw 0 ((m : Int) - 1) a && (rowD c b && pairD e)) = true := h
    rw [Bool.and_eq_true, Bool.and_eq_true] at hl
    obtain ⟨x, y, rfl⟩ := pair_t hl.2.2
    have hl : (listD x && listD y) = true := hl.2.2
    rw [Bool.and_eq_true] at hl
    obtain ⟨k2, _, _, hg⟩ := fit_list (hk (.list [x, y]) (by simp))
    have hw3 := hw2 (.list [x, y]) (by simp)
    rw [allW] at hw3
    intro z hz
    have hz : z ∈ [x, y] := hz
    rcases List.mem_cons.mp hz with rfl | hz
    · exact key _ hl.1 ⟨k2, fitAll_mem hg (by simp)⟩ (allWs_mem hw3 (by simp))
    · rw [List.mem_singleton.mp hz]
      exact key y hl.2 ⟨k2, fitAll_mem hg (by simp)⟩ (allWs_mem hw3 (by simp))
theorem blocks_len {d : PyData} : (blocksD d).length ≤ 2 := by
  unfold blocksD
  split
  · split <;> simp
  · split
    · simp
    · split <;> simp
  · split <;> simp
  · simp
theorem itemsD_len {p : List Int} {ds : List PyData} : (itemsD p ds).length = ds.length := by rw [itemsD, List.length_map, List.length_range]
section
variable {P : Program} {w : World} {K : PySem.W.Frag} {mg : Str → Option Value} {base : Heap} {σ : L2.St} {H H' : Hp}
def spFits (K : PySem.W.Frag) (ok : Str → Prop) : Sp := fun vs H Q _ => ∃ (v : V) (d : PyData) (p : Addr) (path : List Int) (c m n : Nat), vs = [v, .ref p, .int (c : Int), .int (m : Int)] ∧ Dp K H v d ∧ SqT K H p (path.map V.int) ∧ path ≠ [] ∧ path.length ≤ 1000 ∧ fit d n = true ∧ wordOk ok d ∧ ∀ H', Ex H H' → Q (.bl (fitsD c m path d)) H'
theorem ev_orV {ta tb : TE} {a b : Bool} (h1 : Ev ta σ H (.bl a)) (h2 : a = false → Ev tb σ H (.bl b)) : Ev (tOrV ta tb) σ H (.bl (a || b)) := fun H1 e Q q =>
  h1 H1 e _ fun H2 e2 => ⟨a, rfl, by
    cases a with
    | true => exact q H2 e2
    | false => exact h2 rfl H2 (e.trans e2) Q fun H3 e3 => q H3 (e2.trans e3)⟩
theorem ev_noBlocks {te : TE} {E : XK} {v : V} {d : PyData} {c m : Nat} (h : Ev te σ H v) (hd : Dp K H v d) (hst : stmD c m d = true) : Ev (tNotT K (tCall (spBlocks K) [] E (tCons te tNil))) σ H (.bl (blocksD d).isEmpty) := fun H1 e Q q =>
  h H1 e _ fun H2 e2 => ⟨v, d, c, m, H2, rfl, Ex.refl H2, dp_ex (e.trans e2) d v hd, hst, fun B bs H3 nB e3 hB hx => ⟨!bs.isEmpty, .inl ⟨bs, sq_of hB, rfl⟩, by
    have l := dpa_len hx
    have z : (!!bs.isEmpty) = (blocksD d).isEmpty := by
      rw [Bool.not_not]
      cases bs with
      | nil => cases hb : blocksD d with
        | nil => rfl
        | cons _ _ => rw [hb] at l; cases l
      | cons _ _ => cases hb : blocksD d with
        | nil => rw [hb] at l; cases l
        | cons _ _ => rfl
    rw [z]
    exact q H3 (e2.trans e3)⟩⟩
theorem lastI_snoc {p : List Int} (h : p ≠ []) : ∃ r, p = r ++ [lastI p] := by
  refine ⟨p.dropLast, ?_⟩
  have e := List.dropLast_concat_getLast h
  have l : lastI p = p.getLast h := by
    rw [lastI, List.getLast_eq_getElem, List.getD_eq_getElem?_getD, List.getElem?_eq_getElem (by have := List.length_pos_iff.mpr h; omega)]
    rfl
  rw [l]
  exact e.symm
theorem ok_fits {f : Addr} {fd : FuncData} {k : Nat} {ok : Str → Prop} {tk tl : Tok} (F : Fun K "fits" "fits" sfits f fd) (z_len : mg "len" = none) (c_LIST_LIMIT : mg "LIST_LIMIT" = some (.int 8 tk)) (c_LAST_LEVEL : mg "LAST_LEVEL" = some (.int 3 tl))
    (Cis_statement : Cal P w K mg base 5 "is_statement" (spStm K ok) []) (Cblocks_of : Cal P w K mg base 1 "blocks_of" (spBlocks K) []) (hk : 5 ≤ k) : FnOk P w K mg base CX0 (k + 1) f fd ["value", "path", "cells", "procedures"] (spFits K ok) := by
  have sc := scfits
  refine F.ok sc (fun vs H Q E h => ?_) (fun cdv A outer s H vs Q E hr h => ?_)
  · obtain ⟨v, d, p, path, c, m, n, rfl, _⟩ := h
    rfl
  · obtain ⟨v, d, p, path, c, m, n, rfl, hd, hp, hne, hpl, hf, hw, q⟩ := h
    refine ⟨_, (pss_cons (ps_if (PW.pt (pw_or (pt_cmpR op_ge (pe_ix ix_tup (pv 1) (pe_un un_neg pe_int) (fun _ _ => rfl)) (pe_glob (v := .int 8) (by rfl) c_LIST_LIMIT ⟨_, rfl⟩) (nomark _)) (pw_or1 (pt_not (pt_val (pe_c Cis_statement hr (by omega) (by rfl) (pa_cons (pv 0) (pa_cons (pv 2) (pa_cons (pv 3) pa_nil)))))))))
      (pss_one (ps_ret pe_bl))
      pss_nil)
      (pss_cons (ps_set (i := 4) sc.nd rfl (by first | exact Or.inl rfl | exact Or.inr rfl) (pe_op op_fdivN (pe_callB call_len_seq (by rfl) z_len (by decide +kernel) (pa_cons (pv 1) pa_nil)) pe_int))
      (pss_one (ps_ret (pe_or (pe_cmpR op_lt (pv 4) (pe_glob (v := .int 3) (by rfl) c_LAST_LEVEL ⟨_, rfl⟩) (nomark _)) (pe_one (pe_notT (pe_c Cblocks_of hr (by omega) (by rfl) (pa_cons (pv 0) pa_nil))))))))), ?_⟩
    obtain ⟨r, hr⟩ := lastI_snoc hne
    have hat : atI (path.map V.int) (-1) = some (.int (lastI path)) := by
      have e : path.map V.int = r.map V.int ++ [.int (lastI path)] := by
        rw [congrArg (List.map V.int) hr, List.map_append]; rfl
      rw [e]
      exact atI_last _ _
    refine q_when (et_or (et_test (ev_op (ev_op (ev_var rfl) (ev_un ev_c ru_neg) (rv_ixT hp hat)) ev_c rv_I0)) fun _ => et_not (et_B (ev_spStm (ev_var rfl) (ev_var rfl) (ev_var rfl) hd hf hw))) (fun hb H1 e1 => ?_) (fun hb H1 e1 => ?_)
    · refine s_ret ev_c fun H2 e2 => ?_
      have z : fitsD c m path d = false := by
        rw [fitsD, hb]; rfl
      rw [z] at q
      exact q H2 (e1.trans e2)
    · refine q_asg (ev_op (ev_lenS (ev_var rfl) (.inr (ex_t e1 hp))) ev_c (rv_I ⟨by decide, by decide⟩)) fun H2 e2 => ?_
      have hst : stmD c m d = true := by
        cases h : stmD c m d with
        | true => rfl
        | false => rw [h] at hb; simp at hb
      have e12 := e1.trans e2
      refine s_ret (ev_orV (ev_op (ev_var rfl) ev_c rv_I0) fun _ => ev_noBlocks (ev_var rfl) (dp_ex e12 _ _ hd) hst) fun H3 e3 => ?_
      have z : fitsD c m path d = (decide (((path.map V.int).length : Int).fdiv 2 < 3) || (blocksD d).isEmpty) := by
        rw [fitsD, hb, List.length_map]
        have : ((path.length : Int).fdiv 2 < 3) ↔ (path.length / 2 < 3) := by
          rw [show ((path.length : Int).fdiv 2) = ((path.length / 2 : Nat) : Int) from by rw [Int.fdiv_eq_ediv_of_nonneg _ (by decide)]; rfl]
          omega
        rw [decide_eq_decide.mpr this]; rfl
      rw [z] at q
      exact q H3 (e12.trans e3)
end
section
variable {P : Program} {w : World} {K : PySem.W.Frag} {mg : Str → Option Value} {base : Heap} {σ : L2.St} {H H' H0 : Hp}
def StkT (K : PySem.W.Frag) (H0 H : Hp) (x : V) (e : List Int × PyData) : Prop := ∃ v, EntT K H x (e.1, v) ∧ Dp K H0 v e.2
abbrev Stk (K : PySem.W.Frag) (H0 H : Hp) : List V → List (List Int × PyData) → Prop := Paired (StkT K H0 H)
theorem stk_ex {xs : List V} {es : List (List Int × PyData)} (h : Stk K H0 H xs es) (k : Ex H H') : Stk K H0 H' xs es := Paired.mapP h fun _ _ ⟨v, x, y⟩ => ⟨v, entT_ex x k, y⟩
theorem stk_updL {D : Addr} {l l' : List V} {xs : List V} {es : List (List Int × PyData)} (h : Stk K H0 H xs es) (hD : H D = some (.lst l)) : Stk K H0 (upd H D (.lst l')) xs es := Paired.mapP h fun _ _ ⟨v, x, y⟩ => ⟨v, entT_updL x hD, y⟩
theorem paired_of_get {α β : Type} {F : α → β → Prop} : ∀ {a : List α} {b : List β}, a.length = b.length → (∀ (i : Nat) (x : α) (y : β), a[i]? = some x → b[i]? = some y → F x y) → Paired F a b
  | [], [], _, _ => .nil
  | x :: a, y :: b, h, k => .cons (k 0 x y rfl rfl) (paired_of_get (by simpa using h) fun i x y hx hy => k (i + 1) x y hx hy)
theorem paired_get {α β : Type} {F : α → β → Prop} : ∀ {a : List α} {b : List β}, Paired F a b → ∀ {i : Nat} {x : α} {y : β}, a[i]? = some x → b[i]? = some y → F x y
  | _, _, .nil, i, x, y, h, _ => by simp at h
  | _, _, .cons h hr, 0, x, y, e, f => by
    cases e; cases f; exact h
  | _, _, .cons h hr, i + 1, x, y, e, f => paired_get hr (i := i) e f
theorem dpa_get {H : Hp} : ∀ {xs : List V} {ds : List PyData}, DpAll K H xs ds → ∀ {i : Nat} {d : PyData}, ds[i]? = some d → ∃ v, xs[i]? = some v ∧ Dp K H v d
  | _, _, .nil, i, d, h => by simp at h
  | _, _, .cons a r, 0, d, h => by cases h; exact ⟨_, rfl, a⟩
  | _, _, .cons a r, i + 1, d, h => dpa_get r (i := i) h
theorem itemsD_get {p : List Int} {ds : List PyData} {i : Nat} (h : i < ds.length) : (itemsD p ds)[i]? = some (p ++ [(i : Int)], ds.getD i .none) := by
  rw [itemsD, List.getElem?_map, List.getElem?_range h]; rfl
theorem getD_some {α : Type} {l : List α} {i : Nat} {x : α} (d : α) (h : l[i]? = some x) : l.getD i d = x := by
  rw [List.getD_eq_getElem?_getD, h]; rfl
theorem stk_ents {ys xs : List V} {ds : List PyData} {path : List Int} (h : Ents K H ys (entsV xs path)) (hx : DpAll K H0 xs ds) : Stk K H0 H ys (itemsD path ds).reverse := by
  have lx := dpa_len hx
  have ly := paired_len h
  rw [entsV, List.length_map, List.length_range] at ly
  refine paired_of_get (by rw [List.length_reverse, itemsD_len, ly, lx]) fun i x y hi hj => ?_
  have hil : i < xs.length := by
    have := (List.getElem?_eq_some_iff.mp hi).1
    omega
  rw [List.getElem?_reverse (by rw [itemsD_len]; omega), itemsD_len, ← lx] at hj
  rw [itemsD_get (by omega)] at hj
  cases hj
  have hj : xs.length - 1 - i < ds.length := by omega
  have hd : ds[xs.length - 1 - i]? = some (ds.getD (xs.length - 1 - i) .none) := by
    rw [List.getElem?_eq_getElem hj, List.getD_eq_getElem?_getD, List.getElem?_eq_getElem hj]; rfl
  obtain ⟨v, hv, dv⟩ := dpa_get hx hd
  have g := paired_get h hi (y := (path ++ [((xs.length - 1 - i : Nat) : Int)], xs.getD (xs.length - 1 - i) .non)) (by rw [entsV, List.getElem?_map, List.getElem?_range hil]; rfl)
  exact ⟨v, by rw [getD_some _ hv] at g; exact g, dv⟩
theorem paired_unsnoc {α β : Type} {F : α → β → Prop} : ∀ {a : List α} {b : List β} {y : β}, Paired F a (b ++ [y]) → ∃ a0 x, a = a0 ++ [x] ∧ Paired F a0 b ∧ F x y
  | _, [], y, .cons h .nil => ⟨[], _, rfl, .nil, h⟩
  | _, z :: b, y, .cons h r => by
    obtain ⟨a0, x, rfl, k1, k2⟩ := paired_unsnoc r
    exact ⟨_ :: a0, x, rfl, .cons h k1, k2⟩
/-- what stands on the stack is good -/
def Gd (ok : Str → Prop) (many : Nat) (e : List Int × PyData) : Prop := e.1 ≠ [] ∧ e.1.length ≤ 2 * many + 1 ∧ (∃ n, fit e.2 n = true) ∧ allW ok e.2
theorem gd_items {ok : Str → Prop} {many : Nat} {p : List Int} {ds : List PyData} (hp : p.length ≤ 2 * many) (hf : ∃ n, ∀ e ∈ ds, fit e n = true) (hw : ∀ e ∈ ds, allW ok e) : ∀ e ∈ itemsD p ds, Gd ok many e := by
  intro e he
  rw [itemsD, List.mem_map] at he
  obtain ⟨i, hi, rfl⟩ := he
  rw [List.mem_range] at hi
  have hm : ds.getD i .none ∈ ds := by
    rw [List.getD_eq_getElem?_getD, List.getElem?_eq_getElem hi]
    exact List.getElem_mem hi
  obtain ⟨n, hf⟩ := hf
  exact ⟨by simp, by simp; omega, ⟨n, hf _ hm⟩, hw _ hm⟩
theorem gd_up {ok : Str → Prop} {a b : Nat} {e : List Int × PyData} (h : Gd ok a e) (hab : a ≤ b) : Gd ok b e := ⟨h.1, by have := h.2.1; omega, h.2.2⟩
theorem flatD_cons {p : List Int} {k : Nat} {bs : List PyData} (h : k < bs.length) : flatD p k (bs.drop k) = itemsD (p ++ [(k : Int)]) (elems (bs.getD k .none)) ++ flatD p (k + 1) (bs.drop (k + 1)) := by
  rw [List.drop_eq_getElem_cons h, flatD, List.getD_eq_getElem?_getD, List.getElem?_eq_getElem h]; rfl
end
section
variable {P : Program} {w : World} {K : PySem.W.Frag} {mg : Str → Option Value} {base : Heap} {σ : L2.St} {H H' H0 : Hp}
theorem ev_spFits {t1 t2 t3 t4 : TE} {E : XK} {v : V} {d : PyData} {p : Addr} {path : List Int} {ok : Str → Prop} {c m n : Nat} (h1 : Ev t1 σ H v) (h2 : Ev t2 σ H (.ref p)) (h3 : Ev t3 σ H (.int (c : Int))) (h4 : Ev t4 σ H (.int (m : Int))) (hd : Dp K H v d) (hp : SqT K H p (path.map V.int)) (hne : path ≠ []) (hl : path.length ≤ 1000) (hf : fit d n = true) (hw : wordOk ok d) :
    Ev (tCall (spFits K ok) [] E (tCons t1 (tCons t2 (tCons t3 (tCons t4 tNil))))) σ H (.bl (fitsD c m path d)) :=
  ev_call (ea_cons h1 (ea_cons h2 (ea_cons h3 (ea_cons h4 ea_nil)))) fun H1 e Q q _ => ⟨v, d, p, path, c, m, n, rfl, dp_ex e d v hd, ex_t e hp, hne, hl, hf, hw, q⟩
theorem q_while {c : TT} {tb tz : TS} {D : Ends} (Pv : L2.St → Hp → Prop) (μ : L2.St → Hp → Nat) (h0 : Pv σ H)
    (hs : ∀ σ H, Pv σ H → c σ H fun b H1 => if b = true then tb { nx := fun σ' H' => Pv σ' H' ∧ μ σ' H' < μ σ H, rt := D.rt, bk := tz D, ct := fun σ' H' => Pv σ' H' ∧ μ σ' H' < μ σ H } σ H1 else tz D σ H1)
    (mono : ∀ σ H (Q Q' : Bool → Hp → Prop), (∀ b H1, Q b H1 → Q' b H1) → c σ H Q → c σ H Q') : tSeq (tWhile c tb) tz D σ H :=
  while_by (D := { D with nx := tz D }) Pv μ h0 hs mono
theorem gd_flat {ok : Str → Prop} {many : Nat} {p : List Int} (hp : p.length + 1 ≤ 2 * many) : ∀ (bs : List PyData) (k : Nat), (∀ b ∈ bs, ∃ ds, b = .list ds ∧ ds.length ≤ 10000 ∧ (∃ n, ∀ e ∈ ds, fit e n = true) ∧ ∀ e ∈ ds, allW ok e) → ∀ e ∈ flatD p k bs, Gd ok many e
  | [], k, _, e, he => by cases he
  | b :: r, k, h, e, he => by
    obtain ⟨ds, rfl, _, hf, hw⟩ := h b (List.mem_cons_self ..)
    rw [flatD, List.mem_append] at he
    rcases he with he | he
    · exact gd_items (by simp; omega) hf hw e he
    · exact gd_flat hp r (k + 1) (fun b hb => h b (List.mem_cons_of_mem _ hb)) e he
theorem flat_len {p : List Int} : ∀ (bs : List PyData) (k : Nat), (∀ b ∈ bs, (elems b).length ≤ 10000) → (flatD p k bs).length ≤ 10000 * bs.length
  | [], k, _ => by simp [flatD]
  | b :: r, k, h => by
    have h1 := h b (List.mem_cons_self ..)
    have h2 := flat_len (p := p) r (k + 1) fun b hb => h b (List.mem_cons_of_mem _ hb)
    rw [flatD, List.length_append, itemsD_len, List.length_cons]
    omega
def spFF (K : PySem.W.Frag) (ok : Str → Prop) : Sp := fun vs H Q _ => ∃ (v : V) (ds : List PyData) (c m n : Nat), vs = [v, .int (c : Int), .int (m : Int)] ∧ Dp K H v (.list ds) ∧ fit (.list ds) n = true ∧ (∀ e ∈ ds, allW ok e) ∧
  (∀ H', Ex H H' → firstD c m ds = none → Q .non H') ∧ ∀ p t H', Ex H H' → firstD c m ds = some p → SqT K H' t (p.map V.int) → Q (.ref t) H'
def mu4 (σ : L2.St) (_ : Hp) : Nat := match σ[4]? with
  | some (some (V.int i)) => (13 - i).toNat
  | _ => 0
theorem ok_first_fault {f : Addr} {fd : FuncData} {k : Nat} {ok : Str → Prop} {tk : Tok} (F : Fun K "first_fault" "first_fault" sfirst_fault f fd) (z_range : mg "range" = none) (z_reversed : mg "reversed" = none) (z_len : mg "len" = none) (c_PROCEDURE_LIMIT : mg "PROCEDURE_LIMIT" = some (.int 12 tk))
    (Centries : Cal P w K mg base 1 "entries" (spEntries K) []) (Cfits : Cal P w K mg base 6 "fits" (spFits K ok) []) (Cblocks_of : Cal P w K mg base 1 "blocks_of" (spBlocks K) []) (hk : 6 ≤ k) : FnOk P w K mg base CX0 (k + 1) f fd ["body", "cells", "procedures"] (spFF K ok) := by
  have sc := scfirst_fault
  refine F.ok sc (fun vs H Q E h => ?_) (fun cdv A outer s H vs Q E hr h => ?_)
  · obtain ⟨v, ds, c, m, n, rfl, _⟩ := h
    rfl
  · obtain ⟨v, ds, c, m, n, rfl, hd, hf, hw, q1, q2⟩ := h
    refine ⟨_, (pss_cons (ps_set (i := 3) sc.nd rfl (by first | exact Or.inl rfl | exact Or.inr rfl) (pe_c Centries hr (by omega) (by rfl) (pa_cons (pv 0) (pa_cons (pe_tup pa_nil) pa_nil))))
      (pss_cons (ps_set (i := 4) sc.nd rfl (by first | exact Or.inl rfl | exact Or.inr rfl) pe_int)
      (pss_cons (ps_while PassesOwn.never (pt_truth (pv 3) (by intro _; rfl))
      (pss_cons (ps_asg (pe_bm0 PySem.F.plainAttrs_list PySem.F.slot_list_pop PySem.F.type_list_pop mt_pop (pv 3)) (pg_tup (by rfl) (pgs_cons (pg_name (i := 5) sc.nd rfl (by first | exact Or.inl rfl | exact Or.inr rfl)) (pgs_cons (pg_name (i := 6) sc.nd rfl (by first | exact Or.inl rfl | exact Or.inr rfl)) pgs_nil))))
      (pss_cons (ps_set (i := 4) sc.nd rfl (by first | exact Or.inl rfl | exact Or.inr rfl) (pe_op op_add (pv 4) pe_int))
      (pss_cons (ps_if (PW.pt (pw_or (pt_cmpR op_gt (pv 4) (pe_glob (v := .int 12) (by rfl) c_PROCEDURE_LIMIT ⟨_, rfl⟩) (nomark _)) (pw_or1 (pt_not (pt_val (pe_c Cfits hr (by omega) (by rfl) (pa_cons (pv 6) (pa_cons (pv 5) (pa_cons (pv 1) (pa_cons (pv 2) pa_nil))))))))))
      (pss_one (ps_ret (pv 5)))
      pss_nil)
      (pss_cons (ps_set (i := 7) sc.nd rfl (by first | exact Or.inl rfl | exact Or.inr rfl) (pe_c Cblocks_of hr (by omega) (by rfl) (pa_cons (pv 6) pa_nil)))
      (pss_one (ps_for PassesOwn.never rfl (pi_revR (by rfl) z_reversed (prg_1 (by rfl) z_range (pe_callB call_len_seq (by rfl) z_len (by decide +kernel) (pa_cons (pv 7) pa_nil)))) (pg_name (i := 8) sc.nd rfl (by first | exact Or.inl rfl | exact Or.inr rfl))
      (pss_one (ps_expr (pe_bm PySem.F.plainAttrs_list PySem.F.slot_list_extend PySem.F.type_list_extend mt_extend (pv 3) (pa_cons (pe_c Centries hr (by omega) (by rfl) (pa_cons (pe_ix ix_list (pv 7) (pv 8) (fun _ _ => rfl)) (pa_cons (pe_tup (pa_starK (K := K) rfl (pv 5) (pa_cons (pv 8) pa_nil))) pa_nil))) pa_nil)))))))))))
      (pss_one (ps_ret pe_non))))), ?_⟩
    obtain ⟨b, xs, rfl, hb, hx⟩ := dp_lst hd
    obtain ⟨fm, _, hl, hg⟩ := fit_list hf
    have lx := dpa_len hx
    refine q_run ?_
    refine ⟨.ref b, rfl, (by show 0 ≤ sizeLine; decide), fun T nT => ?_⟩
    refine ⟨b, T, xs, [], rfl, ex_l (Ex.new nT) hb, st_of upd_same, by omega, by simp, fun D ys H1 nD e1 hD hE => ?_⟩
    have nD0 : H D = none := new_ex (Ex.new nT) nD
    have e01 : Ex H H1 := (Ex.new nT).trans e1
    refine q_asg ev_c fun H2 e2 => ?_
    refine q_while (fun σ' H' => ∃ (st : List (List Int × PyData)) (many : Nat) (ys : List V) (x5 x6 x7 x8 : Option V), σ' = [some (.ref b), some (.int (c : Int)), some (.int (m : Int)), some (.ref D), some (.int (many : Int)), x5, x6, x7, x8] ∧ Ex H H' ∧ H' D = some (.lst ys) ∧ Stk K H H' ys st.reverse ∧ many ≤ 12 ∧ ffD c m (13 - many) st many = firstD c m ds ∧ st.length ≤ 10000 + 20000 * many ∧ ∀ e ∈ st, Gd ok many e) mu4
      ⟨itemsD [] ds, 0, ys, none, none, none, none, rfl, e01.trans e2, e2 _ _ hD, stk_ex (stk_ents hE hx) e2, by omega, rfl, by rw [itemsD_len]; omega, gd_items (by simp) ⟨fm, fun e he => fitAll_mem hg he⟩ hw⟩
      (fun σ' H' hP => ?_) (fun σ' H' Q' Q'' h ⟨v, hv, kk, tt, q⟩ => ⟨v, hv, kk, tt, h _ _ q⟩)
    obtain ⟨st, many, ys, x5, x6, x7, x8, rfl, eH, hD, hS, hm, hff, hsl, hgd⟩ := hP
    refine ⟨.ref D, rfl, !ys.isEmpty, .inl ⟨ys, sq_of hD, rfl⟩, ?_⟩
    cases st with
    | nil =>
      cases hS
      refine s_ret ev_c fun H3 e3 => q1 H3 (eH.trans e3) ?_
      rw [← hff, show 13 - many = (12 - many) + 1 by omega]; rfl
    | cons e0 st =>
      obtain ⟨p, d⟩ := e0
      rw [List.reverse_cons] at hS
      obtain ⟨ys0, x, rfl, hS0, v, hT, dv⟩ := paired_unsnoc hS
      have hne : (!(ys0 ++ [x]).isEmpty) = true := by simp
      rw [if_pos hne]
      obtain ⟨t, pa, rfl, ht, hpa⟩ := entT_updL (l' := (ys0 ++ [x]).dropLast) hT hD
      have hS1 := stk_updL (l' := (ys0 ++ [V.ref t]).dropLast) hS0 hD
      have e1' := eH.mut (o := .lst (ys0 ++ [V.ref t]).dropLast) nD0
      have hD1 : (upd H' D (.lst (ys0 ++ [V.ref t]).dropLast)) D = some (.lst ys0) := by rw [upd_same, List.dropLast_concat]
      refine ⟨.ref D, rfl, .inl ⟨rfl, _, sq_of hD⟩, D, ys0 ++ [V.ref t], V.ref t, rfl, rfl, hD, by simp, ?_⟩
      generalize upd H' D (.lst (ys0 ++ [V.ref t]).dropLast) = H3 at ht hpa hS1 e1' hD1 ⊢
      refine ⟨t, _, rfl, ht, rfl, .ref pa, _, rfl, v, _, rfl, rfl, ?_⟩
      dsimp only
      refine q_asg (i := 4) (v := .int ((many + 1 : Nat) : Int)) ?ev fun H4 e4 => ?_
      case ev => exact ev_is (ev_op (ev_var rfl) ev_c rv_I0) (by rw [Int.natCast_add]; rfl)
      have e14 := e1'.trans e4
      have hgp := hgd (p, d) (List.mem_cons_self ..)
      obtain ⟨hpn, hpl, ⟨nf, hfd⟩, hwd⟩ := hgp
      have hpl : p.length ≤ 2 * many + 1 := hpl
      refine q_when (et_or (et_test (ev_op (ev_var rfl) ev_c rv_I0)) fun _ => et_not (et_B (ev_spFits (path := p) (d := d) (ev_var rfl) (ev_var rfl) (ev_var rfl) (ev_var rfl) (dp_ex e14 _ _ dv) (ex_t e4 hpa) hpn (by omega) hfd (allW_word hwd)))) (fun hc H5 e5 => ?_) (fun hc H5 e5 => ?_)
      · refine s_ret (ev_var rfl) fun H6 e6 => q2 p pa H6 ((e14.trans e5).trans e6) ?_ (ex_t ((e4.trans e5).trans e6) hpa)
        rw [← hff, show 13 - many = (12 - many) + 1 by omega, ffD, if_pos]
        rw [← hc]
        exact congrArg (· || _) (decide_eq_decide.mpr (by omega))
      · have hc2 : (decide (12 < many + 1) || !fitsD c m p d) = false := by
          rw [← hc]
          exact congrArg (· || _) (decide_eq_decide.mpr (by omega))
        rw [Bool.or_eq_false_iff] at hc2
        have hm2 : many + 1 ≤ 12 := by
          have := of_decide_eq_false hc2.1
          omega
        have hfit : fitsD c m p d = true := by simpa using hc2.2
        have hst : stmD c m d = true := by
          cases h : stmD c m d with
          | true => rfl
          | false => rw [fitsD, h] at hfit; simp at hfit
        rw [show 13 - many = (12 - many) + 1 by omega, ffD, if_neg (by rw [hc2.1, hc2.2]; simp), show 12 - many = 13 - (many + 1) by omega] at hff
        have hbg := blocks_good hst ⟨nf, hfd⟩ hwd
        have hel : ∀ b ∈ blocksD d, (elems b).length ≤ 10000 := fun b hb => by
          obtain ⟨ds', rfl, hl', _⟩ := hbg b hb
          exact hl'
        have hnb := blocks_len (d := d)
        have e15 := e14.trans e5
        refine q_run ?_
        refine ⟨v, rfl, v, d, c, m, H, rfl, e15, dv, hst, fun B bs H6 nB e6 hB hxb => ?_⟩
        have lb := dpa_len hxb
        have hBD : B ≠ D := fun e => by
          rw [e] at nB
          rw [e5 _ _ (e4 _ _ hD1)] at nB
          cases nB
        have e16 := e15.trans e6
        refine ⟨.ref B, rfl, B, bs, rfl, .inl (sq_of hB), (bs.length : Int), rfl, by omega, by omega, by omega, by omega, ?_⟩
        have hn : ((bs.length : Int) - 0).toNat = bs.length := by omega
        rw [hn]
        have wk := (walk_rangeC (lo := (0 : Int) + ((bs.length : Nat) : Int) - 1) (c := -1) (n := bs.length)).mono (G' := fun _ => True) (Y' := fun i H x H' => H' = H ∧ x = .int ((bs.length - 1 - i : Nat) : Int)) (fun _ _ => trivial) (fun i H x H' hi _ y => ⟨y.1, by rw [y.2]; exact congrArg V.int (by omega)⟩)
        refine for_it wk (fun i σ'' H'' => ∃ (x8 : Option V) (ys' : List V), σ'' = [some (.ref b), some (.int (c : Int)), some (.int (m : Int)), some (.ref D), some (.int ((many + 1 : Nat) : Int)), some (.ref pa), some v, some (.ref B), x8] ∧ Ex H H'' ∧ H'' B = some (.lst bs) ∧ H'' D = some (.lst ys') ∧ SqT K H'' pa (p.map V.int) ∧
            Stk K H H'' ys' (flatD p (bs.length - i) ((blocksD d).drop (bs.length - i)) ++ st).reverse)
          ⟨x8, ys0, rfl, e16, hB, e6 _ _ (e5 _ _ (e4 _ _ hD1)), ex_t ((e4.trans e5).trans e6) hpa, ?h0⟩ (fun _ _ _ _ _ => trivial) (fun i x σ'' H'' Hy hi hP y => ?hstep) (fun σ'' H'' hP => ?hend)
        case h0 =>
          rw [Nat.sub_zero, List.drop_of_length_le (by omega)]
          exact stk_ex hS1 ((e4.trans e5).trans e6)
        case hend =>
          obtain ⟨x8', ys', rfl, eH2, hB2, hD2, hp2, hS2⟩ := hP
          rw [Nat.sub_self, List.drop_zero] at hS2
          refine ⟨⟨_, many + 1, ys', some (.ref pa), some v, some (.ref B), x8', rfl, eH2, hD2, hS2, hm2, hff, ?_, ?_⟩, ?_⟩
          · have := flat_len (p := p) (blocksD d) 0 hel
            rw [List.length_cons] at hsl
            rw [List.length_append]
            omega
          · intro e he
            rw [List.mem_append] at he
            rcases he with he | he
            · exact gd_flat (by omega) _ 0 hbg e he
            · exact gd_up (hgd e (List.mem_cons_of_mem _ he)) (by omega)
          · show (13 - ((many + 1 : Nat) : Int)).toNat < (13 - (many : Int)).toNat
            omega
        case hstep =>
          obtain ⟨x8', ys', rfl, eH2, hB2, hD2, hp2, hS2⟩ := hP
          obtain ⟨rfl, rfl⟩ := y
          generalize hj : bs.length - 1 - i = j at *
          have e1 : bs.length - (i + 1) = j := by omega
          have e2 : bs.length - i = j + 1 := by omega
          have hjl : j < (blocksD d).length := by omega
          rw [e2] at hS2
          obtain ⟨dsj, hdj, hlj, hfj, hwj⟩ := hbg _ (List.getElem_mem hjl)
          have hgj : (blocksD d)[j]? = some (.list dsj) := by rw [List.getElem?_eq_getElem hjl, hdj]
          obtain ⟨vb, hvb, dvb⟩ := dpa_get hxb hgj
          obtain ⟨bb, xsj, rfl, hsb, hxj⟩ := dp_lst dvb
          have lj := dpa_len hxj
          have ly := paired_len hS2
          have hlen : (flatD p (j + 1) ((blocksD d).drop (j + 1)) ++ st).length ≤ 300000 := by
            have := flat_len (p := p) ((blocksD d).drop (j + 1)) (j + 1) fun b hb => hel b (List.mem_of_mem_drop hb)
            rw [List.length_drop] at this
            rw [List.length_cons] at hsl
            rw [List.length_append]
            omega
          rw [List.length_reverse] at ly
          refine ⟨.ref D, rfl, .inl ⟨rfl, _, sq_of hD2⟩, ?_⟩
          refine ⟨.ref B, rfl, .int (j : Int), rfl, B, bs, (j : Int), .ref bb, rfl, rfl, sq_of hB2, atI_nat hvb, ?_⟩
          refine ⟨.ref pa, rfl, pa, p.map V.int, rfl, .inl hp2, .int (j : Int), rfl, sz_of (by simp; omega), fun T2 nT2 => ?_⟩
          have eT := Ex.new (o := .tup (p.map V.int ++ [V.int (j : Int)])) nT2
          refine ⟨bb, T2, xsj, p ++ [(j : Int)], rfl, ex_l (eH2.trans eT) hsb, st_of (by rw [upd_same, List.map_append]; rfl), by omega, by simp; omega, fun D2 ys2 H7 nD2 e7 hD2' hE => ?_⟩
          have e27 := eT.trans e7
          have hD7 := e27 _ _ hD2
          refine ⟨D, D2, ys', ys2, rfl, rfl, hD7, hD2', ?_, ?_⟩
          · have l2 := paired_len hE
            rw [entsV, List.length_map, List.length_range] at l2
            exact Nat.le_trans (m := 400000) (by omega) (by decide)
          · refine ⟨some (.int (j : Int)), ys' ++ ys2, rfl, (eH2.trans e27).mut nD0, by rw [upd_ne hBD]; exact e27 _ _ hB2, upd_same, sqT_updL (ex_t e27 hp2) hD7, ?_⟩
            rw [e1, flatD_cons hjl, getD_some _ hgj, List.append_assoc, List.reverse_append]
            exact paired_app (stk_updL (stk_ex hS2 e27) hD7) (stk_updL (stk_ents hE hxj) hD7)
end
abbrev scheck_bodies : Stmt := topS 32
theorem sccheck_bodies : FnScope ["cells", "bodies", "procedure", "body", "path"] ["cells", "bodies"] (defScope scheck_bodies) := ⟨rfl, rfl, rfl, by decide +kernel, rfl, by decide +kernel, by decide +kernel⟩
abbrev sBook___init__ : Stmt := inClass (topS 34) 0
theorem scBook___init__ : FnScope ["self", "cells", "bodies"] ["self", "cells", "bodies"] (defScope sBook___init__) := ⟨rfl, rfl, rfl, by decide +kernel, rfl, by decide +kernel, by decide +kernel⟩
abbrev sBook_cells : Stmt := inClass (topS 34) 1
theorem scBook_cells : FnScope ["self"] ["self"] (defScope sBook_cells) := ⟨rfl, rfl, rfl, by decide +kernel, rfl, by decide +kernel, by decide +kernel⟩
abbrev sBook_bodies : Stmt := inClass (topS 34) 2
theorem scBook_bodies : FnScope ["self"] ["self"] (defScope sBook_bodies) := ⟨rfl, rfl, rfl, by decide +kernel, rfl, by decide +kernel, by decide +kernel⟩
abbrev sBook_calls : Stmt := inClass (topS 34) 3
theorem scBook_calls : FnScope ["self"] ["self"] (defScope sBook_calls) := ⟨rfl, rfl, rfl, by decide +kernel, rfl, by decide +kernel, by decide +kernel⟩
abbrev sBook___len__ : Stmt := inClass (topS 34) 4
theorem scBook___len__ : FnScope ["self"] ["self"] (defScope sBook___len__) := ⟨rfl, rfl, rfl, by decide +kernel, rfl, by decide +kernel, by decide +kernel⟩
abbrev sBook___getitem__ : Stmt := inClass (topS 34) 5
theorem scBook___getitem__ : FnScope ["self", "at", "procedure", "path", "statement"] ["self", "at"] (defScope sBook___getitem__) := ⟨rfl, rfl, rfl, by decide +kernel, rfl, by decide +kernel, by decide +kernel⟩
abbrev sBook___eq__ : Stmt := inClass (topS 34) 7
theorem scBook___eq__ : FnScope ["self", "other"] ["self", "other"] (defScope sBook___eq__) := ⟨rfl, rfl, rfl, by decide +kernel, rfl, by decide +kernel, by decide +kernel⟩
abbrev sstatement_at : Stmt := topS 33
theorem scstatement_at : FnScope ["body", "path", "place", "statement", "step"] ["body", "path"] (defScope sstatement_at) := ⟨rfl, rfl, rfl, by decide +kernel, rfl, by decide +kernel, by decide +kernel⟩
abbrev splaces : Stmt := topS 25
theorem scplaces : FnScope ["body", "rows", "index", "statement", "number", "block", "path", "inner"] ["body"] (defScope splaces) := ⟨rfl, rfl, rfl, by decide +kernel, rfl, by decide +kernel, by decide +kernel⟩
section
variable {P : Program} {w : World} {K : PySem.W.Frag} {mg : Str → Option Value} {base : Heap} {σ : L2.St} {H H' H0 : Hp}
theorem ev_spFF0 {t1 t2 t3 : TE} {E : XK} {v : V} {ds : List PyData} {ok : Str → Prop} {c m n : Nat} (h1 : Ev t1 σ H v) (h2 : Ev t2 σ H (.int (c : Int))) (h3 : Ev t3 σ H (.int (m : Int))) (hd : Dp K H v (.list ds)) (hf : fit (.list ds) n = true) (hw : ∀ e ∈ ds, allW ok e) (h0 : firstD c m ds = none) :
    Ev (tCall (spFF K ok) [] E (tCons t1 (tCons t2 (tCons t3 tNil)))) σ H .non :=
  ev_call (ea_cons h1 (ea_cons h2 (ea_cons h3 ea_nil))) fun H1 e Q q _ => ⟨v, ds, c, m, n, rfl, dp_ex e _ v hd, hf, hw, fun H' e' _ => q H' e', fun p t H' e' h _ => by rw [h0] at h; cases h⟩
/-- bodies without a fault -/
def okBodies (ok : Str → Prop) (c : Nat) (bs : List PyData) : Prop := 1 ≤ bs.length ∧ bs.length ≤ 3 ∧ ∀ b ∈ bs, ∃ ds, b = .list ds ∧ (∀ e ∈ ds, allW ok e) ∧ firstD c bs.length ds = none
def spChk (K : PySem.W.Frag) (ok : Str → Prop) : Sp := fun vs H Q _ => ∃ (v : V) (bs : List PyData) (c n : Nat), vs = [.int (c : Int), v] ∧ Dp K H v (.list bs) ∧ fit (.list bs) n = true ∧ okBodies ok c bs ∧ ∀ H', Ex H H' → Q .non H'
theorem ok_check_bodies {f : Addr} {fd : FuncData} {k : Nat} {ok : Str → Prop} {tk : Tok} (F : Fun K "check_bodies" "check_bodies" scheck_bodies f fd) (z_isinstance : mg "isinstance" = none) (z_list : mg "list" = none) (z_len : mg "len" = none) (z_enumerate : mg "enumerate" = none) (c_MOST_PROCEDURES : mg "MOST_PROCEDURES" = some (.int 3 tk))
    (Cfirst_fault : Cal P w K mg base 7 "first_fault" (spFF K ok) []) (hk : 7 ≤ k) : FnOk P w K mg base CX0 (k + 1) f fd ["cells", "bodies"] (spChk K ok) := by
  have sc := sccheck_bodies
  refine F.ok sc (fun vs H Q E h => ?_) (fun cdv A outer s H vs Q E hr h => ?_)
  · obtain ⟨v, bs, c, n, rfl, _⟩ := h
    rfl
  · obtain ⟨v, bs, c, n, rfl, hd, hf, hok, q⟩ := h
    refine ⟨_, (pss_cons (ps_if (PW.pt (pw_or (pt_not (pt_val (pe_callB call_isi (by rfl) z_isinstance (by decide +kernel) (pa_cons (pv 1) (pa_cons (pe_bltn (v := .ty "list") (by rfl) z_list (by decide +kernel) rfl) pa_nil))))) (pw_or1 (pt_not (pt_chain op_le op_le pe_int (pe_callB call_len_seq (by rfl) z_len (by decide +kernel) (pa_cons (pv 1) pa_nil)) (pe_glob (v := .int 3) (by rfl) c_MOST_PROCEDURES ⟨_, rfl⟩))))))
      (pss_one ps_never)
      pss_nil)
      (pss_one (ps_for PassesOwn.never rfl (pi_enum (by rfl) z_enumerate (pa_cons (pv 1) pa_nil)) (pg_tup (by rfl) (pgs_cons (pg_name (i := 2) sc.nd rfl (by first | exact Or.inl rfl | exact Or.inr rfl)) (pgs_cons (pg_name (i := 3) sc.nd rfl (by first | exact Or.inl rfl | exact Or.inr rfl)) pgs_nil)))
      (pss_cons (ps_if (pt_not (pt_val (pe_callB call_isi (by rfl) z_isinstance (by decide +kernel) (pa_cons (pv 3) (pa_cons (pe_bltn (v := .ty "list") (by rfl) z_list (by decide +kernel) rfl) pa_nil)))))
      (pss_one ps_never)
      pss_nil)
      (pss_cons (ps_set (i := 4) sc.nd rfl (by first | exact Or.inl rfl | exact Or.inr rfl) (pe_c Cfirst_fault hr (by omega) (by rfl) (pa_cons (pv 3) (pa_cons (pv 0) (pa_cons (pe_callB call_len_seq (by rfl) z_len (by decide +kernel) (pa_cons (pv 1) pa_nil)) pa_nil)))))
      (pss_one (ps_if (pt_cmpR op_notN (pv 4) pe_non (nomark _))
      (pss_one ps_never)
      pss_nil))))))), ?_⟩
    obtain ⟨l1, l3, hall⟩ := hok
    have kd := kitB_isa (PyData.list bs)
    have hd0 := hd
    obtain ⟨b, xs, rfl, hb, hx⟩ := dp_lst hd
    obtain ⟨fm, _, hl, hg⟩ := fit_list hf
    have lx := dpa_len hx
    refine q_when (b := false) (et_or (a := false) (b := false) (et_is (et_not (et_B (ev_isi hd0 (ev_var rfl) kd.2.2.2.1))) (by rw [isa_listD rfl]; rfl)) fun _ => et_is (et_not (et_test (ev_chain (b := decide ((xs.length : Int) ≤ 3)) ev_c (ev_lenS (ev_var rfl) (.inl hb)) rv_I0 fun _ => ⟨ev_c, rv_I0⟩))) ?hlen) (fun h => (nomatch h)) fun _ H1 e1 => ?_
    case hlen =>
      rw [decide_eq_true (by omega : (1 : Int) ≤ (xs.length : Int)), decide_eq_true (by omega : (xs.length : Int) ≤ 3)]; rfl
    refine ⟨.ref b, rfl, b, xs, rfl, ex_l e1 hb, ?_⟩
    refine for_it walk_enum (fun i σ' H' => ∃ x2 x3 x4 : Option V, σ' = [some (.int (c : Int)), some (.ref b), x2, x3, x4] ∧ Ex H H') ⟨none, none, none, rfl, e1⟩ (fun i σ' H' _ ⟨_, _, _, _, e⟩ => ex_l e hb) (fun i x σ' H' H'' hi hP y => ?_) (fun σ' H' ⟨_, _, _, _, e⟩ => q H' e)
    obtain ⟨x2, x3, x4, rfl, e2⟩ := hP
    obtain ⟨T, x, y, rfl, nT, rfl, hx', hy⟩ := y
    cases hx'
    have eT := e2.trans (Ex.new (o := .tup [.int (i : Nat), y]) nT)
    have hib : i < bs.length := by omega
    obtain ⟨ds, hds, hwd, h0⟩ := hall _ (List.getElem_mem hib)
    have hgi : bs[i]? = some (.list ds) := by rw [List.getElem?_eq_getElem hib, hds]
    obtain ⟨y', hy', dy⟩ := dpa_get hx hgi
    have hyy : some y' = some y := hy'.symm.trans hy
    cases hyy
    have kd2 := kitB_isa (PyData.list ds)
    have fds : fit (.list ds) fm = true := by rw [← hds]; exact fitAll_mem hg (List.getElem_mem hib)
    refine ⟨T, _, rfl, st_of upd_same, rfl, _, _, rfl, _, _, rfl, rfl, ?_⟩
    dsimp only
    refine q_when (b := false) (et_is (et_not (et_B (ev_isi (dp_ex eT _ _ dy) (ev_var rfl) kd2.2.2.2.1))) (by rw [isa_listD rfl]; rfl)) (fun h => (nomatch h)) fun _ H3 e3 => ?_
    have e23 := eT.trans e3
    refine q_asg (ev_spFF0 (m := bs.length) (ev_var rfl) (ev_var rfl) (ev_is (ev_lenS (ev_var rfl) (.inl (ex_l e23 hb))) (by rw [lx])) (dp_ex e23 _ _ dy) fds hwd h0) fun H4 e4 => ?_
    refine s_when (b := false) (et_is (et_test (ev_op (z := .bl (!decide (V.non = V.non))) (ev_var rfl) ev_c (rv_val fun _ _ _ q => ⟨rfl, q⟩))) (by simp)) (fun h => (nomatch h)) fun _ H5 e5 => ?_
    exact ⟨_, _, _, rfl, (e23.trans e4).trans e5⟩
end
open C8 (Mak pe_mk)
section
variable {P : Program} {w : World} {K : PySem.W.Frag} {mg : Str → Option Value} {base : Heap} {σ : L2.St} {H H' H0 : Hp}
theorem ev_spChk {t1 t2 : TE} {E : XK} {v : V} {bs : List PyData} {ok : Str → Prop} {c n : Nat} (h1 : Ev t1 σ H (.int (c : Int))) (h2 : Ev t2 σ H v) (hd : Dp K H v (.list bs)) (hf : fit (.list bs) n = true) (hok : okBodies ok c bs) :
    Ev (tCall (spChk K ok) [] E (tCons t1 (tCons t2 tNil))) σ H .non :=
  ev_call (ea_cons h1 (ea_cons h2 ea_nil)) fun H1 e Q q _ => ⟨v, bs, c, n, rfl, dp_ex e _ v hd, hf, hok, q⟩
/-- a book: its cells, and a copy of its bodies -/
def IsBook (N : Addr → Prop) (C : Addr) (H : Hp) (x : Addr) (c : Nat) (bs : List PyData) : Prop := ∃ dx v, H x = some (.ins C dx [("_cells", .int (c : Int)), ("_bodies", v)]) ∧ Dq N H v (.list bs)
def spInit (K : PySem.W.Frag) (ok : Str → Prop) (C : Addr) (cn : Nat) : Sp := fun vs H Q _ => ∃ (x dx : Addr) (v : V) (bs : List PyData) (c n : Nat) (Hb : Hp), vs = [.ref x, .int (c : Int), v] ∧ H x = some (.ins C dx []) ∧ Hb x = none ∧ Ex Hb H ∧ Dp K Hb v (.list bs) ∧ fit (.list bs) n = true ∧ cn = n + 1 ∧ 1 ≤ c ∧ c ≤ 3 ∧ okBodies ok c bs ∧
  ∀ H', Ex Hb H' → IsBook (New Hb) C H' x c bs → Q .non H'
theorem mak_Book {C f : Addr} {fd : FuncData} {k cn : Nat} {ok : Str → Prop} {tk : Tok} (M : Mk K C f) (hm : mg "Book" = some (.ref C)) (F : Fun K "__init__" "Book.__init__" sBook___init__ f fd) (b : Binds K fd ["self", "cells", "bodies"] []) (hc : Cls K C) (n1 : NoAttr K C "_cells") (n2 : NoAttr K C "_bodies") (c_MOST_CELLS : mg "MOST_CELLS" = some (.int 3 tk))
    (Cis_between : Cal P w K mg base 2 "is_between" (spBtw K) []) (Ccheck_bodies : Cal P w K mg base 8 "check_bodies" (spChk K ok) []) (Ccopied : Cal P w K mg base cn "copied" (spCopy K cn) []) (hk : 8 ≤ k) (hcn : cn ≤ k) : Mak P w K mg base (k + 1) "Book" C (spInit K ok C cn) [] := by
  have sc := scBook___init__
  refine ⟨f, fd, ["self", "cells", "bodies"], [], M, ?_, hm, b, .nil⟩
  refine F.ok sc (fun vs H Q E h => ?_) (fun cdv A outer s H vs Q E hr h => ?_)
  · obtain ⟨x, dx, v, bs, c, n, Hb, rfl, _⟩ := h
    rfl
  · obtain ⟨x, dx, v, bs, c, n, Hb, rfl, hx, hbx, eb, hd, hf, hcn2, c1, c3, hok, q⟩ := h
    refine ⟨_, (pss_cons (ps_if (pt_not (pt_val (pe_c Cis_between hr (by omega) (by rfl) (pa_cons (pv 1) (pa_cons pe_int (pa_cons (pe_glob (v := .int 3) (by rfl) c_MOST_CELLS ⟨_, rfl⟩) pa_nil))))))
      (pss_one ps_never)
      pss_nil)
      (pss_cons (ps_expr (pe_c Ccheck_bodies hr (by omega) (by rfl) (pa_cons (pv 1) (pa_cons (pv 2) pa_nil))))
      (pss_cons (ps_fld (pv 0) (pv 1) rfl)
      (pss_one (ps_fld (pv 0) (pe_c Ccopied hr (by omega) (by rfl) (pa_cons (pv 2) pa_nil)) rfl))))), ?_⟩
    refine q_when (b := false) (et_is (et_not (et_B (ev_spBtw (d := .int (c : Int)) (ev_var rfl) ev_c ev_c (.int _)))) (by rw [btw, decide_eq_true (by omega : (1 : Int) ≤ (c : Int)), decide_eq_true (by omega : (c : Int) ≤ 3)]; rfl)) (fun h => (nomatch h)) fun _ H1 e1 => ?_
    have edrop : ∀ {te : TE} {D : Ends} {tz : TS} {σ : L2.St} {H : Hp} {v : V}, Ev te σ H v → (∀ H1, Ex H H1 → tz D σ H1) → tSeq (tDrop te) tz D σ H := fun h k => h _ (Ex.refl _) _ fun H2 e2 => k H2 e2
    refine edrop (ev_spChk (ev_var rfl) (ev_var rfl) (dp_ex (eb.trans e1) _ _ hd) hf hok) fun H2 e2 => ?_
    have e02 := e1.trans e2
    have eb2 := eb.trans e02
    refine ⟨.int (c : Int), rfl, .ref x, rfl, x, C, dx, [], rfl, e02 _ _ hx, hc, n1, by decide, ?_⟩
    have eb3 := eb2.mut (o := .ins C dx (putF "_cells" (V.int (c : Int)) [])) hbx
    have hx3 : (upd H2 x (.ins C dx (putF "_cells" (V.int (c : Int)) []))) x = some (.ins C dx [("_cells", .int (c : Int))]) := upd_same
    generalize upd H2 x (.ins C dx (putF "_cells" (V.int (c : Int)) [])) = H3 at eb3 hx3 ⊢
    dsimp only
    refine ⟨v, rfl, v, .list bs, n, rfl, hcn2, dp_ex eb3 _ _ hd, hf, fun v' H4 e4 hq => ?_⟩
    refine ⟨.ref x, rfl, x, C, dx, [("_cells", .int (c : Int))], rfl, e4 _ _ hx3, hc, n2, by show 1 < 1000; decide, ?_⟩
    refine q _ ((eb3.trans e4).mut hbx) ⟨dx, v', upd_same, dq_to (fun a na => new_ex eb3 na) (fun a o na ho => ?_) _ _ hq⟩
    rw [upd_ne (fun e => by rw [e] at na; rw [show H3 x = none from na] at hx3; cases hx3)]
    exact ho
end
/-! ### what the law draws has no fault -/
theorem row_ok {c : Nat} {r : List Int} (h : okR c r) : rowD c (LI r) = true := by
  rw [rowD, List.length_map, decide_eq_true h.1, Bool.true_and, List.all_eq_true]
  intro x hx
  rw [List.mem_map] at hx
  obtain ⟨i, hi, rfl⟩ := hx
  have := h.2 i hi
  rw [btw, decide_eq_true this.1, decide_eq_true this.2]; rfl
theorem btw_nat {k m : Nat} (h : k < m) : btw 0 ((m : Int) - 1) (.int (k : Int)) = true := by
  rw [btw, decide_eq_true (by omega), decide_eq_true (by omega)]; rfl
theorem up_asc : ∀ (cs : List Nat), cs.Pairwise (· < ·) → up ((cs.map (Nat.cast : Nat → Int)).map PyData.int) = true
  | [], _ => rfl
  | [_], _ => rfl
  | a :: b :: r, h => by
    rw [List.pairwise_cons] at h
    have ab := h.1 b (List.mem_cons_self ..)
    have g := up_asc (b :: r) h.2
    show (decide ((a : Int) < (b : Int)) && up (PyData.int (b : Int) :: (r.map (Nat.cast : Nat → Int)).map PyData.int)) = true
    rw [decide_eq_true (by omega), Bool.true_and]
    exact g
theorem cells_ok {c : Nat} {cs : List Nat} (h : asc c cs) : cellsD c (LI (cs.map (Nat.cast : Nat → Int))) = true := by
  show (List.all _ _ && up _) = true
  rw [up_asc cs h.1, Bool.and_true, List.all_eq_true]
  intro x hx
  rw [List.map_map, List.mem_map] at hx
  obtain ⟨k, hk, rfl⟩ := hx
  exact btw_nat (h.2 k hk)
theorem stm_okD {c m lv : Nat} {s : Stm} (h : okS c m s lv) : stmD c m (toD s) = true := by
  cases s with
  | set k r =>
    rw [okS] at h; rw [toD]
    show (btw 0 ((c : Int) - 1) (.int (k : Int)) && rowD c (LI r)) = true
    rw [btw_nat h.1, row_ok h.2]; rfl
  | carry r =>
    rw [okS] at h; rw [toD]
    exact row_ok h
  | keep cs b =>
    rw [okS] at h; rw [toD]
    show (cellsD c (LI _) && true) = true
    rw [cells_ok h.2.1]; rfl
  | either a b => rw [toD]; rfl
  | again b => rw [toD]; rfl
  | call p r a b =>
    rw [okS] at h; rw [toD]
    show (btw 0 ((m : Int) - 1) (.int (p : Int)) && (rowD c (LI r) && true)) = true
    rw [btw_nat h.2.1, row_ok h.2.2.1]; rfl
  | fin w =>
    rw [okS] at h; rw [toD]
    show btw 0 1 (.int (w : Int)) = true
    exact btw_nat (m := 2) h
/-- the blocks -/
def blks : Stm → List (List Stm)
  | .keep _ b => [b]
  | .either a b => [a, b]
  | .again b => [b]
  | .call _ _ a b => [a, b]
  | _ => []
theorem blocks_toD (s : Stm) : blocksD (toD s) = (blks s).map fun b => .list (toDs b) := by
  cases s <;> rw [toD] <;> rfl
def itF (p : List Int) : Nat → List PyData → List (List Int × PyData)
  | _, [] => []
  | i, d :: r => (p ++ [(i : Int)], d) :: itF p (i + 1) r
theorem itF_is (p : List Int) : ∀ (ds : List PyData) (k : Nat), (List.range ds.length).map (fun (i : Nat) => (p ++ [((k + i : Nat) : Int)], ds.getD i .none)) = itF p k ds
  | [], k => rfl
  | d :: r, k => by
    rw [List.length_cons, List.range_succ_eq_map, List.map_cons, List.map_map, itF, ← itF_is p r (k + 1)]
    refine List.cons_eq_cons.mpr ⟨rfl, List.map_congr_left fun i _ => ?_⟩
    show (p ++ [((k + (i + 1) : Nat) : Int)], r.getD i .none) = (p ++ [((k + 1 + i : Nat) : Int)], r.getD i .none)
    rw [show k + (i + 1) = k + 1 + i by omega]
theorem itemsD_itF (p : List Int) (ds : List PyData) : itemsD p ds = itF p 0 ds := by
  rw [← itF_is p ds 0, itemsD]
  refine List.map_congr_left fun i _ => ?_
  rw [Nat.zero_add]
theorem lastI_at (p : List Int) (i : Int) : lastI (p ++ [i]) = i := by
  rw [lastI, List.length_append, List.length_singleton, Nat.add_sub_cancel, List.getD_eq_getElem?_getD, List.getElem?_append_right (Nat.le_refl _), Nat.sub_self]; rfl
theorem fits_ok {c m lv i : Nat} {s : Stm} {p : List Int} (h : okS c m s lv) (hp : p.length = 2 * lv) (hi : i < 8) : fitsD c m (p ++ [(i : Int)]) (toD s) = true := by
  rw [fitsD, lastI_at, stm_okD h, decide_eq_false (by omega), blocks_toD]
  show (true && (decide _ || _)) = true
  rw [Bool.true_and, List.length_append, hp, List.length_singleton]
  by_cases hl : lv < 3
  · rw [decide_eq_true (by omega)]; rfl
  · cases s with
    | keep _ _ => rw [okS] at h; exact absurd h.1 hl
    | either _ _ => rw [okS] at h; exact absurd h.1 hl
    | again _ => rw [okS] at h; exact absurd h.1 hl
    | call _ _ _ _ => rw [okS] at h; exact absurd h.1 hl
    | _ => exact Bool.or_true _
theorem ff_step {c m f many : Nat} {p : List Int} {d : PyData} {st : List (List Int × PyData)} (hf : fitsD c m p d = true) (hm : many < 12) : ffD c m (f + 1) ((p, d) :: st) many = ffD c m f (flatD p 0 (blocksD d) ++ st) (many + 1) := by
  rw [ffD, if_neg]
  rw [hf, decide_eq_false (by omega)]; simp
mutual
theorem ff_S {c m : Nat} : ∀ (s : Stm) {lv i f many : Nat} {p : List Int} {st : List (List Int × PyData)}, okS c m s lv → p.length = 2 * lv → i < 8 → many + cnt s ≤ 12 → ffD c m (f + cnt s) ((p ++ [(i : Int)], toD s) :: st) many = ffD c m f st (many + cnt s)
  | .set k r, lv, i, f, many, p, st, h, hp, hi, hm => by
    have hf := fits_ok h hp hi
    rw [cnt] at hm ⊢
    rw [ff_step hf (by omega), blocks_toD]; rfl
  | .carry r, lv, i, f, many, p, st, h, hp, hi, hm => by
    have hf := fits_ok h hp hi
    rw [cnt] at hm ⊢
    rw [ff_step hf (by omega), blocks_toD]; rfl
  | .fin r, lv, i, f, many, p, st, h, hp, hi, hm => by
    have hf := fits_ok h hp hi
    rw [cnt] at hm ⊢
    rw [ff_step hf (by omega), blocks_toD]; rfl
  | .keep cs b, lv, i, f, many, p, st, h, hp, hi, hm => by
    have hf := fits_ok h hp hi
    rw [okS] at h
    rw [cnt] at hm ⊢
    rw [show f + (1 + cntL b) = (f + cntL b) + 1 by omega, ff_step hf (by omega), blocks_toD]
    show ffD c m _ ((itemsD ((p ++ [(i : Int)]) ++ [((0 : Nat) : Int)]) (toDs b) ++ []) ++ st) _ = _
    rw [List.append_nil, itemsD_itF, ff_L b (lv := lv + 1) h.2.2.2 (by simp; omega) (by omega) (by omega)]
    exact congrArg _ (by omega)
  | .again b, lv, i, f, many, p, st, h, hp, hi, hm => by
    have hf := fits_ok h hp hi
    rw [okS] at h
    rw [cnt] at hm ⊢
    rw [show f + (1 + cntL b) = (f + cntL b) + 1 by omega, ff_step hf (by omega), blocks_toD]
    show ffD c m _ ((itemsD ((p ++ [(i : Int)]) ++ [((0 : Nat) : Int)]) (toDs b) ++ []) ++ st) _ = _
    rw [List.append_nil, itemsD_itF, ff_L b (lv := lv + 1) h.2.2 (by simp; omega) (by omega) (by omega)]
    exact congrArg _ (by omega)
  | .either a b, lv, i, f, many, p, st, h, hp, hi, hm => by
    have hf := fits_ok h hp hi
    rw [okS] at h
    rw [cnt] at hm ⊢
    rw [show f + (1 + cntL a + cntL b) = ((f + cntL b) + cntL a) + 1 by omega, ff_step hf (by omega), blocks_toD]
    show ffD c m _ ((itemsD ((p ++ [(i : Int)]) ++ [((0 : Nat) : Int)]) (toDs a) ++ (itemsD ((p ++ [(i : Int)]) ++ [((1 : Nat) : Int)]) (toDs b) ++ [])) ++ st) _ = _
    rw [List.append_nil, itemsD_itF, itemsD_itF, List.append_assoc, ff_L a (lv := lv + 1) h.2.2.1 (by simp; omega) (by omega) (by omega), ff_L b (lv := lv + 1) h.2.2.2.2 (by simp; omega) (by omega) (by omega)]
    exact congrArg _ (by omega)
  | .call q r a b, lv, i, f, many, p, st, h, hp, hi, hm => by
    have hf := fits_ok h hp hi
    rw [okS] at h
    rw [cnt] at hm ⊢
    rw [show f + (1 + cntL a + cntL b) = ((f + cntL b) + cntL a) + 1 by omega, ff_step hf (by omega), blocks_toD]
    show ffD c m _ ((itemsD ((p ++ [(i : Int)]) ++ [((0 : Nat) : Int)]) (toDs a) ++ (itemsD ((p ++ [(i : Int)]) ++ [((1 : Nat) : Int)]) (toDs b) ++ [])) ++ st) _ = _
    rw [List.append_nil, itemsD_itF, itemsD_itF, List.append_assoc, ff_L a (lv := lv + 1) h.2.2.2.2.1 (by simp; omega) (by omega) (by omega), ff_L b (lv := lv + 1) h.2.2.2.2.2.2 (by simp; omega) (by omega) (by omega)]
    exact congrArg _ (by omega)
theorem ff_L {c m : Nat} : ∀ (ss : List Stm) {lv i f many : Nat} {p : List Int} {st : List (List Int × PyData)}, okL c m ss lv → p.length = 2 * lv → i + ss.length ≤ 8 → many + cntL ss ≤ 12 → ffD c m (f + cntL ss) (itF p i (toDs ss) ++ st) many = ffD c m f st (many + cntL ss)
  | [], lv, i, f, many, p, st, h, hp, hi, hm => by rw [cntL, toDs, itF]; rfl
  | s :: r, lv, i, f, many, p, st, h, hp, hi, hm => by
    rw [okL] at h
    rw [cntL] at hm ⊢
    rw [List.length_cons] at hi
    rw [toDs, itF, List.cons_append, show f + (cnt s + cntL r) = (f + cntL r) + cnt s by omega, ff_S s h.1 hp (by omega) (by omega), ff_L r h.2 hp (by omega) (by omega)]
    exact congrArg _ (by omega)
end
theorem first_none {c m : Nat} {b : List Stm} (h : okB c m b) : firstD c m (toDs b) = none := by
  obtain ⟨h1, h2, h3⟩ := h
  rw [firstD, itemsD_itF, ← List.append_nil (itF _ _ _), show 13 = (13 - cntL b) + cntL b by omega, ff_L b h1 (by rfl) (by omega) (by omega), show 13 - cntL b = (12 - cntL b) + 1 by omega]
  rfl
theorem lv_len {n : Nat} {xs : List PyData} (h : xs.length ≤ 10000) (g : fitAll xs n = true) : fit (.list xs) (n + 1) = true := by
  rw [fit, decide_eq_true h, g]; rfl
theorem lv_tup {n : Nat} {xs : List PyData} (h : xs.length ≤ 10000) (g : fitAll xs n = true) : fit (.tuple xs) (n + 1) = true := by
  rw [fit, decide_eq_true h, g]; rfl
theorem asc_from : ∀ (cs : List Nat) (lo c : Nat), cs.Pairwise (· < ·) → (∀ k ∈ cs, lo ≤ k ∧ k < c) → cs.length ≤ c - lo
  | [], lo, c, _, _ => Nat.zero_le _
  | a :: r, lo, c, h, g => by
    rw [List.pairwise_cons] at h
    have ga := g a (List.mem_cons_self ..)
    have := asc_from r (a + 1) c h.2 fun k hk => ⟨h.1 k hk, (g k (List.mem_cons_of_mem _ hk)).2⟩
    rw [List.length_cons]
    omega
theorem asc_len {c : Nat} {cs : List Nat} (h : asc c cs) : cs.length ≤ c := asc_from cs 0 c h.1 fun k hk => ⟨Nat.zero_le _, h.2 k hk⟩
mutual
theorem fit_S {c m : Nat} (hc : c ≤ 3) : ∀ (s : Stm) {lv n : Nat}, okS c m s lv → 3 * (3 - lv) + 3 ≤ n → fit (toD s) n = true
  | .set k r, lv, n, h, hn => by
    rw [okS] at h; rw [toD]
    obtain ⟨j, rfl⟩ : ∃ j, n = j + 2 := ⟨n - 2, by omega⟩
    refine lv_tup (by show 3 ≤ 10000; decide) ?_
    simp only [fitAll, fit, Bool.true_and, Bool.and_true]
    exact fit_LI (n := j) (by rw [h.2.1]; omega)
  | .carry r, lv, n, h, hn => by
    rw [okS] at h; rw [toD]
    obtain ⟨j, rfl⟩ : ∃ j, n = j + 2 := ⟨n - 2, by omega⟩
    refine lv_tup (by show 2 ≤ 10000; decide) ?_
    simp only [fitAll, fit, Bool.true_and, Bool.and_true]
    exact fit_LI (n := j) (by rw [h.1]; omega)
  | .keep cs b, lv, n, h, hn => by
    rw [okS] at h; rw [toD]
    obtain ⟨j, rfl⟩ : ∃ j, n = j + 2 := ⟨n - 2, by omega⟩
    refine lv_tup (by show 3 ≤ 10000; decide) ?_
    have h1 := fit_LI (l := cs.map (Nat.cast : Nat → Int)) (n := j) (by rw [List.length_map]; have := asc_len h.2.1; omega)
    have h2 := lv_len (n := j) (by rw [toDs_len]; omega) (fit_L hc b h.2.2.2 (by omega))
    have h5 : fit (.str "keep") (j + 1) = true := rfl
    rw [fitAll, fitAll, fitAll, fitAll, h5, h1, h2]; rfl
  | .again b, lv, n, h, hn => by
    rw [okS] at h; rw [toD]
    obtain ⟨j, rfl⟩ : ∃ j, n = j + 2 := ⟨n - 2, by omega⟩
    refine lv_tup (by show 2 ≤ 10000; decide) ?_
    have h2 := lv_len (n := j) (by rw [toDs_len]; omega) (fit_L hc b h.2.2 (by omega))
    have h5 : fit (.str "again") (j + 1) = true := rfl
    rw [fitAll, fitAll, fitAll, h5, h2]; rfl
  | .either a b, lv, n, h, hn => by
    rw [okS] at h; rw [toD]
    obtain ⟨j, rfl⟩ : ∃ j, n = j + 2 := ⟨n - 2, by omega⟩
    refine lv_tup (by show 3 ≤ 10000; decide) ?_
    have h1 := lv_len (n := j) (by rw [toDs_len]; omega) (fit_L hc a h.2.2.1 (by omega))
    have h2 := lv_len (n := j) (by rw [toDs_len]; omega) (fit_L hc b h.2.2.2.2 (by omega))
    have h5 : fit (.str "either") (j + 1) = true := rfl
    rw [fitAll, fitAll, fitAll, fitAll, h5, h1, h2]; rfl
  | .call p r a b, lv, n, h, hn => by
    rw [okS] at h; rw [toD]
    obtain ⟨j, rfl⟩ : ∃ j, n = j + 3 := ⟨n - 3, by omega⟩
    refine lv_tup (by show 4 ≤ 10000; decide) ?_
    have h1 := fit_LI (l := r) (n := j + 1) (by rw [h.2.2.1.1]; omega)
    have h2 := lv_len (n := j) (by rw [toDs_len]; omega) (fit_L hc a h.2.2.2.2.1 (by omega))
    have h3 := lv_len (n := j) (by rw [toDs_len]; omega) (fit_L hc b h.2.2.2.2.2.2 (by omega))
    have h4 : fit (.list [.list (toDs a), .list (toDs b)]) (j + 2) = true := lv_len (by show 2 ≤ 10000; decide) (by rw [fitAll, fitAll, fitAll, h2, h3]; rfl)
    have h5 : fit (.str "call") (j + 2) = true := rfl
    have h6 : fit (.int (p : Int)) (j + 2) = true := rfl
    rw [fitAll, fitAll, fitAll, fitAll, fitAll, h5, h6, h1, h4]; rfl
  | .fin w, lv, n, h, hn => by
    rw [toD]
    obtain ⟨j, rfl⟩ : ∃ j, n = j + 2 := ⟨n - 2, by omega⟩
    refine lv_tup (by show 2 ≤ 10000; decide) ?_
    rfl
theorem fit_L {c m : Nat} (hc : c ≤ 3) : ∀ (ss : List Stm) {lv n : Nat}, okL c m ss lv → 3 * (3 - lv) + 3 ≤ n → fitAll (toDs ss) n = true
  | [], lv, n, h, hn => by rw [toDs, fitAll]
  | s :: r, lv, n, h, hn => by
    rw [okL] at h
    rw [toDs, fitAll, fit_S hc s h.1 hn, fit_L hc r h.2 hn]; rfl
end
/-- the known words -/
def okWords (ok : Str → Prop) : Prop := ok "set" ∧ ok "carry" ∧ ok "keep" ∧ ok "either" ∧ ok "again" ∧ ok "call" ∧ ok "end"
theorem allWs_ints {ok : Str → Prop} : ∀ l : List Int, allWs ok (l.map PyData.int)
  | [] => by rw [List.map_nil, allWs]; trivial
  | i :: r => by
    rw [List.map_cons, allWs, allW]
    · exact ⟨trivial, allWs_ints r⟩
    all_goals (intro _ h; cases h)
mutual
theorem allW_S {ok : Str → Prop} (o : okWords ok) : ∀ s : Stm, allW ok (toD s)
  | .set k r => by
    rw [toD]
    simp only [allW, allWs, wordOk, and_true, true_and]
    exact ⟨o.1, allWs_ints r⟩
  | .carry r => by
    rw [toD]
    simp only [allW, allWs, wordOk, and_true, true_and]
    exact ⟨o.2.1, allWs_ints r⟩
  | .keep cs b => by
    rw [toD]
    simp only [allW, allWs, wordOk, and_true, true_and]
    exact ⟨o.2.2.1, allWs_ints _, allW_L o b⟩
  | .either a b => by
    rw [toD]
    simp only [allW, allWs, wordOk, and_true, true_and]
    exact ⟨o.2.2.2.1, allW_L o a, allW_L o b⟩
  | .again b => by
    rw [toD]
    simp only [allW, allWs, wordOk, and_true, true_and]
    exact ⟨o.2.2.2.2.1, allW_L o b⟩
  | .call p r a b => by
    rw [toD]
    simp only [allW, allWs, wordOk, and_true, true_and]
    exact ⟨o.2.2.2.2.2.1, allWs_ints r, allW_L o a, allW_L o b⟩
  | .fin w => by
    rw [toD]
    simp only [allW, allWs, wordOk, and_true, true_and]
    exact o.2.2.2.2.2.2
theorem allW_L {ok : Str → Prop} (o : okWords ok) : ∀ ss : List Stm, allWs ok (toDs ss)
  | [] => by rw [toDs, allWs]; trivial
  | s :: r => by
    rw [toDs, allWs]
    exact ⟨allW_S o s, allW_L o r⟩
end
theorem toB_ok {ok : Str → Prop} {c m : Nat} (o : okWords ok) {bs : List (List Stm)} (hl : bs.length = m) (m1 : 1 ≤ m) (m3 : m ≤ 3) (h : ∀ b ∈ bs, okB c m b) : okBodies ok c (bs.map bD) := by
  refine ⟨by rw [List.length_map]; omega, by rw [List.length_map]; omega, fun b hb => ?_⟩
  rw [List.mem_map] at hb
  obtain ⟨b, hb, rfl⟩ := hb
  refine ⟨toDs b, rfl, fun e he => allWs_mem (allW_L o b) he, ?_⟩
  rw [List.length_map, hl]
  exact first_none (h b hb)
theorem toB_fit {c m : Nat} (hc : c ≤ 3) {bs : List (List Stm)} (hl : bs.length ≤ 10000) (h : ∀ b ∈ bs, okB c m b) : fit (toB bs) 14 = true := by
  refine lv_len (by rw [List.length_map]; exact hl) ?_
  induction bs with
  | nil => rfl
  | cons b r ih =>
    have hb := h b (List.mem_cons_self ..)
    have g := lv_len (n := 12) (by rw [toDs_len]; have := hb.2.1; omega) (fit_L hc b hb.1 (by decide))
    rw [List.map_cons, fitAll, show fit (bD b) 13 = true from g, ih (by rw [List.length_cons] at hl; omega) fun b hb => h b (List.mem_cons_of_mem _ hb)]; rfl
/-! ### what the law compares may be compared -/
mutual
theorem fit_depth : ∀ (d : PyData) (n : Nat), fit d n = true → PyData.depth d ≤ n
  | .none, _, _ => by simp [PyData.depth]
  | .bool _, _, _ => by simp [PyData.depth]
  | .int _, _, _ => by simp [PyData.depth]
  | .str _, _, _ => by simp [PyData.depth]
  | .list xs, 0, h => by simp [fit] at h
  | .list xs, n + 1, h => by
    rw [fit, Bool.and_eq_true] at h
    have := fit_depthAll xs n h.2
    rw [PyData.depth]; omega
  | .tuple xs, 0, h => by simp [fit] at h
  | .tuple xs, n + 1, h => by
    rw [fit, Bool.and_eq_true] at h
    have := fit_depthAll xs n h.2
    rw [PyData.depth]; omega
  | .dict _, _, h => by simp [fit] at h
theorem fit_depthAll : ∀ (ds : List PyData) (n : Nat), fitAll ds n = true → PyData.depthAll ds ≤ n
  | [], _, _ => by simp [PyData.depthAll]
  | d :: ds, n, h => by
    rw [fitAll, Bool.and_eq_true] at h
    have h1 := fit_depth d n h.1
    have h2 := fit_depthAll ds n h.2
    rw [PyData.depthAll]; omega
end
theorem shaped_of {d : PyData} {n : Nat} (h : fit d n = true) (hn : n ≤ 64) (hl : d.canLay0 = true) : SeqAt.shaped d = true := by
  rw [SeqAt.shaped, hl, Bool.true_and, decide_eq_true_eq]
  have := fit_depth d n h
  omega
theorem canLay_ints : ∀ l : List Int, PyData.canLayAll0 (l.map PyData.int) = true
  | [] => by simp [PyData.canLayAll0]
  | i :: r => by
    rw [List.map_cons, PyData.canLayAll0, canLay_ints r, Bool.and_true]
    simp [PyData.canLay0]
theorem depth_ints : ∀ l : List Int, PyData.depthAll (l.map PyData.int) = 0
  | [] => by simp [PyData.depthAll]
  | i :: r => by
    rw [List.map_cons, PyData.depthAll, depth_ints r]
    simp [PyData.depth]
theorem lay_LI (l : List Int) : (LI l).canLay0 = true := by
  rw [PyData.canLay0]; exact canLay_ints l
mutual
theorem lay_S : ∀ s : Stm, (toD s).canLay0 = true
  | .set k r => by
    rw [toD, PyData.canLay0]
    simp only [PyData.canLayAll0, lay_LI, Bool.and_true]
    simp only [PyData.canLay0, Bool.and_true]
    decide +kernel
  | .carry r => by
    rw [toD, PyData.canLay0]
    simp only [PyData.canLayAll0, lay_LI, Bool.and_true]
    decide +kernel
  | .keep cs b => by
    rw [toD, PyData.canLay0]
    have hb := lay_L b
    have h1 : (PyData.list (toDs b)).canLay0 = true := by rw [PyData.canLay0]; exact hb
    simp only [PyData.canLayAll0, lay_LI, h1, Bool.and_true]
    decide +kernel
  | .either a b => by
    rw [toD, PyData.canLay0]
    have h1 : (PyData.list (toDs a)).canLay0 = true := by rw [PyData.canLay0]; exact lay_L a
    have h2 : (PyData.list (toDs b)).canLay0 = true := by rw [PyData.canLay0]; exact lay_L b
    simp only [PyData.canLayAll0, h1, h2, Bool.and_true]
    decide +kernel
  | .again b => by
    rw [toD, PyData.canLay0]
    have h2 : (PyData.list (toDs b)).canLay0 = true := by rw [PyData.canLay0]; exact lay_L b
    simp only [PyData.canLayAll0, h2, Bool.and_true]
    decide +kernel
  | .call p r a b => by
    rw [toD, PyData.canLay0]
    have h1 : (PyData.list (toDs a)).canLay0 = true := by rw [PyData.canLay0]; exact lay_L a
    have h2 : (PyData.list (toDs b)).canLay0 = true := by rw [PyData.canLay0]; exact lay_L b
    have h3 : (PyData.list [.list (toDs a), .list (toDs b)]).canLay0 = true := by rw [PyData.canLay0]; simp only [PyData.canLayAll0, h1, h2]; rfl
    simp only [PyData.canLayAll0, lay_LI, h3, Bool.and_true]
    simp only [PyData.canLay0, Bool.and_true]
    decide +kernel
  | .fin w => by
    rw [toD, PyData.canLay0]
    simp only [PyData.canLayAll0, PyData.canLay0, Bool.and_true]
    decide +kernel
theorem lay_L : ∀ ss : List Stm, PyData.canLayAll0 (toDs ss) = true
  | [] => by rw [toDs]; simp [PyData.canLayAll0]
  | s :: r => by rw [toDs, PyData.canLayAll0, lay_S s, lay_L r]; rfl
end
/-! ### own rules: len(x), x[i, j] by a class's own __len__ and __getitem__ -/
section
variable {X : Cx} {CX : CXT} {C f : Addr} {fd : FuncData} {ps : List Str} {sp : Sp} {E : XK} {k : Nat}
theorem env_in1 {pins : List (Addr × Obj)} {σ : L2.St} {H : Hp} {s : Shared} (I : Inv X pins σ H s) : Env0 X.prog X.w X.K X.mg X.base X.A.in1 X.stack s H :=
  have e := I.env0
  ⟨e.frames, e.mod, e.bs, e.bsz, e.funs, e.frf, e.hok, e.bare⟩
/-- the call of an own def, one step in -/
theorem run_in1 {pins : List (Addr × Obj)} {σ : L2.St} {H : Hp} {s : Shared} {Q : VK} {us : List Value} {vs : List V} (F : FnOk X.prog X.w X.K X.mg X.base CX k f fd ps sp) (hb : Binds X.K fd ps []) (hr : Room (k + 1) X.A) (hx : Passes CX X E) (I : Inv X pins σ H s) (r : Vals vs us) (h : sp vs H Q E) :
    wpAny (model X.prog X.w) X.A.in1 (call (.ref f) us) (EP X pins σ Q) X.xe s := by
  have hl := F.len _ _ _ _ h
  refine wpAny_call (codeAny_mono (F.run X.A.in1 X.stack s H ⟨us, []⟩ us vs _ E hr.in1 (env_in1 I) (by
    have := hb s us I.kIn (by rw [List.append_nil, ← r.length]; exact hl)
    simpa using this) r h) fun r s' hq => ?_)
  cases r with
  | error e => exact hx pins σ H s e s' I hq
  | ok fl =>
    cases fl with
    | ret w => exact I.after hq
    | next => exact False.elim hq
    | brk => exact False.elim hq
    | cont => exact False.elim hq
theorem call_lenOwn (F : FnOk X.prog X.w X.K X.mg X.base CX k f fd ps sp) (hs : PySem.W.findIn X.K (.ref C) "__len__" = some (some (.ref f))) (hf : PySem.W.isFn X.K (.ref f) = true) (hb : Binds X.K fd ps []) (hr : Room (k + 1) X.A) (hx : Passes CX X E) :
    CallR X (.builtin "len") (fun xs H Q => ∃ a dx fs, xs = [.ref a] ∧ H a = some (.ins C dx fs) ∧ sp [.ref a] H (fun v H' => ∃ n : Nat, n < 4611686018427387904 ∧ v = .int (n : Int) ∧ Q (.int (n : Int)) H') E) := by
  intro pins s σ H xs us Q I r h
  obtain ⟨a, dx, fs, rfl, ha, hsp⟩ := h
  obtain ⟨u, rfl, ru⟩ := vals1 r
  obtain rfl : u = Value.ref a := ru
  obtain ⟨mA, J, _⟩ := ins_get I.hok ha
  obtain ⟨od, J, _⟩ := J.look
  obtain ⟨m, hF⟩ := I.fr
  refine PySem.W.len_K hF I.ok.mod.kin J hs hf (wpAny_mono (run_in1 F hb hr hx I (show Vals [V.ref a] [Value.ref a] from .cons rfl .nil) hsp) (fun v s' hq => ?_) fun _ _ x => x)
  obtain ⟨z, H', I', rz, n, hn, rfl, q⟩ := hq
  obtain ⟨t, rfl⟩ := rz
  exact ⟨⟨by omega, by omega⟩, .int n, H', I'.tok _, ⟨_, rfl⟩, q⟩
/-- a[b] by the class's own __getitem__ -/
theorem pe_ixOwn {a b : Expr} {ta tb : TE} {pos : Pos} (F : FnOk X.prog X.w X.K X.mg X.base CX k f fd ps sp) (hs : PySem.W.findIn X.K (.ref C) "__getitem__" = some (some (.ref f))) (hfn : PySem.W.fnIn X.K f = true) (hf : PySem.W.isFn X.K (.ref f) = true) (hb : Binds X.K fd ps []) (hr : Room (k + 1) X.A) (hx : Passes CX X E)
    (ha : PE X a ta) (hbb : PE X b tb) (hsl : ∀ x i, subscripted b true (.ref x) i = runValue (.builtin "lifetime.subscript" ⟨[.ref x, i], []⟩)) :
    PE X (.Subscript a b pos) (fun σ H Q => ta σ H fun x H1 => tb σ H1 fun y H2 => ∃ p dx fs, x = .ref p ∧ H2 p = some (.ins C dx fs) ∧ sp [.ref p, y] H2 Q E) := by
  refine ⟨fun pins s σ H Q I h => ?_⟩
  refine Subscript_ (binT ha hbb I h fun v u s2 x y H2 I2 rx ry q => ?_)
  obtain ⟨p, dx, fs, rfl, hp, hsp⟩ := q
  cases rx
  obtain ⟨mA, J, _⟩ := ins_get I2.hok hp
  obtain ⟨od, J, _⟩ := J.look
  obtain ⟨m, hF⟩ := I2.fr
  exact PySem.W.sub_K hF I2.ok.mod.kin J hs hfn hf (run_in1 F hb hr hx I2 (show Vals [V.ref p, y] [Value.ref p, u] from .cons rfl (.cons ry .nil)) hsp) (hsl _ _)
end
section
variable {X : Cx} {CX : CXT} {C f : Addr} {fd : FuncData} {ps : List Str} {sp : Sp} {E : XK} {k : Nat}
/-- x == y by the class's own __eq__, whatever it tells -/
theorem op_eqOwn (F : FnOk X.prog X.w X.K X.mg X.base CX k f fd ps sp) (hs : PySem.W.findIn X.K (.ref C) "__eq__" = some (some (.ref f))) (hf : PySem.W.isFn X.K (.ref f) = true) (hb : Binds X.K fd ps []) (hr : Room k X.A) (hx : Passes CX X E) :
    OpR X (compareOp .Eq) (fun x y H Q => ∃ a b dx dy fs gs, x = .ref a ∧ y = .ref b ∧ H a = some (.ins C dx fs) ∧ H b = some (.ins C dy gs) ∧ sp [.ref a, .ref b] H (fun v H' => ∃ t, v = .bl t ∧ Q (.bl t) H') E) := by
  intro pins s σ H x y v u Q I rx ry hq
  obtain ⟨a, b, dx, dy, fs, gs, rfl, rfl, ha, hb', hsp⟩ := hq
  cases rx
  cases ry
  obtain ⟨mA, J, _⟩ := ins_get I.hok ha
  obtain ⟨mB, J', _⟩ := ins_get I.hok hb'
  obtain ⟨od, J, _⟩ := J.look
  obtain ⟨od', J', _⟩ := J'.look
  obtain ⟨m, hF⟩ := I.fr
  show wpAny (model X.prog X.w) X.A (richCompare .Eq (.ref a) (.ref b)) (EP X pins σ Q) X.xe s
  have r2 : Vals [V.ref a, V.ref b] [Value.ref a, Value.ref b] := .cons rfl (.cons rfl .nil)
  refine PySem.W.cmp_K (op := .Eq) (tb := .ref C) hr.units0 hF I.ok.mod.kin J J'.type (by simp [PySem.W.notFirst]) hs hf (wpAny_mono (run_fn (dvs := []) F hr hb .nil hx I r2 hsp) (fun v s' hq => ?_) fun _ _ x => x)
  obtain ⟨z, H', I', rz, t, rfl, q⟩ := hq
  cases rz
  exact ⟨.bl t, H', I', rfl, q⟩
end
/-! ### the seven words -/
def ok7 (x : Str) : Prop := x = Str.ofString "set" ∨ x = Str.ofString "carry" ∨ x = Str.ofString "keep" ∨ x = Str.ofString "either" ∨ x = Str.ofString "again" ∨ x = Str.ofString "call" ∨ x = Str.ofString "end"
theorem ok7_words : okWords ok7 := ⟨.inl rfl, .inr (.inl rfl), .inr (.inr (.inl rfl)), .inr (.inr (.inr (.inl rfl))), .inr (.inr (.inr (.inr (.inl rfl)))), .inr (.inr (.inr (.inr (.inr (.inl rfl))))), .inr (.inr (.inr (.inr (.inr (.inr rfl)))))⟩
theorem sizes7 {K : PySem.W.Frag} {w : World} {a : Addr} {es : Array DictEntry} {n : Nat} {t0 t1 t2 t3 t4 t5 t6 : Tok} (d : KDict K w a es n) (h0 : PySem.W.nsIn K a "set" = some (some (.int 3 t0))) (h1 : PySem.W.nsIn K a "carry" = some (some (.int 2 t1))) (h2 : PySem.W.nsIn K a "keep" = some (some (.int 3 t2)))
    (h3 : PySem.W.nsIn K a "either" = some (some (.int 3 t3))) (h4 : PySem.W.nsIn K a "again" = some (some (.int 2 t4))) (h5 : PySem.W.nsIn K a "call" = some (some (.int 4 t5))) (h6 : PySem.W.nsIn K a "end" = some (some (.int 2 t6))) : Sizes K w a es n ok7 := by
  obtain ⟨z0, z1, z2, z3, z4, z5, z6⟩ := szw
  refine ⟨d, fun x m hx hm => ?_, fun x hx hm => ?_⟩
  · rcases hx with rfl | rfl | rfl | rfl | rfl | rfl | rfl
    · cases z0.symm.trans hm; exact ⟨_, h0⟩
    · cases z1.symm.trans hm; exact ⟨_, h1⟩
    · cases z2.symm.trans hm; exact ⟨_, h2⟩
    · cases z3.symm.trans hm; exact ⟨_, h3⟩
    · cases z4.symm.trans hm; exact ⟨_, h4⟩
    · cases z5.symm.trans hm; exact ⟨_, h5⟩
    · cases z6.symm.trans hm; exact ⟨_, h6⟩
  · rcases hx with rfl | rfl | rfl | rfl | rfl | rfl | rfl
    · cases z0.symm.trans hm
    · cases z1.symm.trans hm
    · cases z2.symm.trans hm
    · cases z3.symm.trans hm
    · cases z4.symm.trans hm
    · cases z5.symm.trans hm
    · cases z6.symm.trans hm
/-! ### the methods that only read -/
section
variable {P : Program} {w : World} {K : PySem.W.Frag} {mg : Str → Option Value} {base : Heap} {σ : L2.St} {H H' H0 : Hp}
/-- what a book's object holds -/
def BkO (C : Addr) (H : Hp) (x : Addr) (c : Nat) (v : V) : Prop := ∃ dx, H x = some (.ins C dx [("_cells", .int (c : Int)), ("_bodies", v)])
def spBkCells (C : Addr) : Sp := fun vs H Q _ => ∃ (x : Addr) (c : Nat) (v : V), vs = [.ref x] ∧ BkO C H x c v ∧ ∀ H', Ex H H' → Q (.int (c : Int)) H'
def spLen (K : PySem.W.Frag) (C : Addr) : Sp := fun vs H Q _ => ∃ (x : Addr) (c : Nat) (b : Addr) (xs : List V), vs = [.ref x] ∧ BkO C H x c (.ref b) ∧ SqL K H b xs ∧ ∀ H', Ex H H' → Q (.int (xs.length : Int)) H'
def spBds (K : PySem.W.Frag) (C : Addr) (cn : Nat) : Sp := fun vs H Q _ => ∃ (x : Addr) (c : Nat) (v : V) (d : PyData) (n : Nat), vs = [.ref x] ∧ BkO C H x c v ∧ Dp K H v d ∧ fit d n = true ∧ cn = n + 1 ∧ ∀ v' H', Ex H H' → Dq (New H) H' v' d → Q v' H'
theorem ev_fld {C : Addr} {te : TE} {f : Str} {x dx : Addr} {fs : List (Str × V)} {v : V} (hc : Cls K C) (nf : NoAttr K C f) (h : Ev te σ H (.ref x)) (hx : H x = some (.ins C dx fs)) (hv : fs.lookup f = some v) : Ev (tFld K te f) σ H v := fun H1 e Q q =>
  h H1 e _ fun H2 e2 => ⟨x, C, dx, fs, v, rfl, e2 _ _ (e _ _ hx), hc, nf, hv, q H2 e2⟩
theorem ok_cells_told {C f : Addr} {fd : FuncData} {k : Nat} (F : Fun K "cells" "Book.cells" sBook_cells f fd) (hc : Cls K C) (n1 : NoAttr K C "_cells") : FnOk P w K mg base CX0 (k + 1) f fd ["self"] (spBkCells C) := by
  have sc := scBook_cells
  refine F.ok sc (fun vs H Q E h => ?_) (fun cdv A outer s H vs Q E hr h => ?_)
  · obtain ⟨x, c, v, rfl, _⟩ := h
    rfl
  · obtain ⟨x, c, v, rfl, ⟨dx, hx⟩, q⟩ := h
    refine ⟨_, (pss_one (ps_ret (pe_fld (pv 0) rfl))), ?_⟩
    exact s_ret (ev_fld hc n1 (ev_var rfl) hx rfl) fun H1 e1 => q H1 e1
theorem ok_len {C f : Addr} {fd : FuncData} {k : Nat} (F : Fun K "__len__" "Book.__len__" sBook___len__ f fd) (hc : Cls K C) (n2 : NoAttr K C "_bodies") (z_len : mg "len" = none) : FnOk P w K mg base CX0 (k + 1) f fd ["self"] (spLen K C) := by
  have sc := scBook___len__
  refine F.ok sc (fun vs H Q E h => ?_) (fun cdv A outer s H vs Q E hr h => ?_)
  · obtain ⟨x, c, b, xs, rfl, _⟩ := h
    rfl
  · obtain ⟨x, c, b, xs, rfl, ⟨dx, hx⟩, hb, q⟩ := h
    refine ⟨_, (pss_one (ps_ret (pe_callB call_len_seq (by rfl) z_len (by decide +kernel) (pa_cons (pe_fld (pv 0) rfl) pa_nil)))), ?_⟩
    exact s_ret (ev_lenS (ev_fld hc n2 (ev_var rfl) hx rfl) (.inl hb)) fun H1 e1 => q H1 e1
theorem ok_bodies_told {C f : Addr} {fd : FuncData} {k cn : Nat} (F : Fun K "bodies" "Book.bodies" sBook_bodies f fd) (hc : Cls K C) (n2 : NoAttr K C "_bodies") (Ccopied : Cal P w K mg base cn "copied" (spCopy K cn) []) (hcn : cn ≤ k) : FnOk P w K mg base CX0 (k + 1) f fd ["self"] (spBds K C cn) := by
  have sc := scBook_bodies
  refine F.ok sc (fun vs H Q E h => ?_) (fun cdv A outer s H vs Q E hr h => ?_)
  · obtain ⟨x, c, v, d, n, rfl, _⟩ := h
    rfl
  · obtain ⟨x, c, v, d, n, rfl, ⟨dx, hx⟩, hd, hf, hn, q⟩ := h
    refine ⟨_, (pss_one (ps_ret (pe_c Ccopied hr (by omega) (by rfl) (pa_cons (pe_fld (pv 0) rfl) pa_nil)))), ?_⟩
    refine s_retR (cp_call hn (ev_fld hc n2 (ev_var rfl) hx rfl) hd hf H (Ex.refl H) _ fun v' H1 e1 hq => q v' H1 e1 hq)
end
/-! ### a heap without one object -/
def Ct (p : Addr) (H : Hp) : Hp := fun a => if a = p then none else H a
section
variable {K : PySem.W.Frag} {H H' Hb : Hp} {p a : Addr} {σ : L2.St} {ta tb te tl : TE}
theorem ct_self : Ct p H p = none := by rw [Ct, if_pos rfl]
theorem ct_o {o : HO} (h : H a = some o) (n : a ≠ p) : Ct p H a = some o := by rw [Ct, if_neg n]; exact h
theorem ct_ne {o : HO} (h : Ct p H a = some o) : a ≠ p ∧ H a = some o := by
  by_cases e : a = p
  · rw [Ct, if_pos e] at h; cases h
  · rw [Ct, if_neg e] at h; exact ⟨e, h⟩
theorem ct_ex : Ex (Ct p H) H := fun a o h => (ct_ne h).2
theorem ct_of (e : Oth p H H') : Ex (Ct p H) H' := fun a o h => e a o (ct_ne h).1 (ct_ne h).2
theorem ct_oth (e : Oth p H H') : Ex (Ct p H) (Ct p H') := fun a o h => ct_o (e a o (ct_ne h).1 (ct_ne h).2) (ct_ne h).1
theorem ct_mono (e : Ex H H') : Ex (Ct p H) (Ct p H') := ct_oth (.of e)
theorem ct_base (h : Ex Hb H) (hp : Hb p = none) : Ex Hb (Ct p H) := fun a o ha => ct_o (h a o ha) fun z => by rw [z, hp] at ha; cases ha
theorem ex_oth (h : Ex Hb H) (hp : Hb p = none) (o : Oth p H H') : Ex Hb H' := fun a u ha => o a u (fun z => by rw [z, hp] at ha; cases ha) (h a u ha)
theorem ct_rd {u : HO} {l : List V} (hp : H p = some (.lst l)) (h : Rd H a u) (hu : ∀ l, u ≠ .lst l) : Rd (Ct p H) a u := by
  rcases h with h | ⟨o, h⟩
  · exact .inl (ct_o h fun z => by rw [z, hp] at h; exact hu _ (Option.some.inj h).symm)
  · exact .inr ⟨o, ct_o h fun z => by rw [z, hp] at h; cases h⟩
theorem ct_t {xs l : List V} (hp : H p = some (.lst l)) (h : SqT K H a xs) : SqT K (Ct p H) a xs := by
  rcases h with h | h
  · exact .inl (ct_rd hp h fun l e => by cases e)
  · exact .inr h
/-! ### arguments of one kind -/
def EvW (Φ : V → Hp → Prop) (ta : TA) (σ : L2.St) (H : Hp) (n : Nat) : Prop := ∀ H1, Ex H H1 → ∀ Q : List V → Hp → Prop, (∀ vs H2, Ex H1 H2 → vs.length = n → (∀ v ∈ vs, Φ v H2) → Q vs H2) → ta σ H1 Q
theorem ew_nil {Φ : V → Hp → Prop} : EvW Φ tNil σ H 0 := fun H1 _ _ q => q [] H1 (Ex.refl H1) rfl fun _ h => by cases h
theorem ew_cons {Φ : V → Hp → Prop} {tr : TA} {n : Nat} (mono : ∀ v H H', Ex H H' → Φ v H → Φ v H') (h : EvP te σ H Φ) (hr : EvW Φ tr σ H n) : EvW Φ (tCons te tr) σ H (n + 1) := fun H1 e _ q =>
  h H1 e _ fun v H2 e2 f => hr H2 (e.trans e2) _ fun vs H3 e3 hl hv => q (v :: vs) H3 (e2.trans e3) (by rw [List.length_cons, hl]) fun w hw => by
    rcases List.mem_cons.mp hw with rfl | hw
    · exact mono _ _ _ e3 f
    · exact hv w hw
def TupIs (K : PySem.W.Frag) (xs : List V) (v : V) (H : Hp) : Prop := ∃ a, v = .ref a ∧ SqT K H a xs
theorem ti_var {i : Nat} {xs : List V} (h : σ[i]? = some (some (.ref a))) (hs : SqT K H a xs) : EvP (tVar i) σ H (TupIs K xs) := ep_ev (ev_var h) fun H2 e => ⟨a, rfl, ex_t e hs⟩
theorem ti_tup {tr : TA} {vs : List V} (h : EvA tr σ H vs) (hl : vs.length ≤ 100000) : EvP (tTup tr) σ H (TupIs K vs) := fun H1 e _ q =>
  h H1 e _ fun H2 e2 => ⟨sz_of hl, fun T hT => q _ _ (e2.trans (Ex.new hT)) ⟨T, rfl, st_of upd_same⟩⟩
theorem ti_cat {tr : TA} {xs ys : List V} (h1 : EvP ta σ H (TupIs K xs)) (h : EvA tr σ H ys) (hy : ys ≠ []) (l1 : xs.length ≤ 1000) (l2 : ys.length ≤ 1000) : EvP (tOp (rCatA K) ta (tTup tr)) σ H (TupIs K (xs ++ ys)) := fun H1 e Q q =>
  h1 H1 e _ fun v H2 e2 ⟨a, hv, ha⟩ => h H2 (e.trans e2) _ fun H3 e3 => ⟨sz_of (by omega), fun T hT => by
    have eT := Ex.new (o := .tup ys) hT
    refine ⟨a, T, xs, ys, hv, rfl, ex_t (e3.trans eT) ha, st_of upd_same, sz_of (by omega), fun h0 => ?_, fun _ h0 => absurd h0 hy, fun _ _ T2 n2 => ?_⟩
    · refine q _ _ ((e2.trans e3).trans eT) ⟨T, rfl, ?_⟩
      rw [h0, List.nil_append]
      exact st_of upd_same
    · exact q _ _ (((e2.trans e3).trans eT).trans (Ex.new n2)) ⟨T2, rfl, st_of upd_same⟩⟩
theorem cut_init (xs : List V) (h : xs ≠ []) : cutV xs none (some ((xs.length : Int) - 1)) = xs.take (xs.length - 1) := by
  have h0 : 0 < xs.length := List.length_pos_iff.mpr h
  unfold cutV
  rw [HT.sIx_none, show ((xs.length : Int) - 1) = ((xs.length - 1 : Nat) : Int) by omega, show HT.sIx xs.length xs.length (some ((xs.length - 1 : Nat) : Int)) = min (xs.length - 1) xs.length from HT.sIx_nat xs.length xs.length _]
  show (xs.drop 0).take (min (xs.length - 1) xs.length - 0) = _
  rw [List.drop_zero, Nat.sub_zero, Nat.min_eq_left (by omega)]
theorem ti_init {i : Nat} {xs : List V} (h : σ[i]? = some (some (.ref a))) (hs : SqT K H a xs) (hx : xs ≠ []) : EvP (tSl (rSlT K) (tVar i) tNoPart (tPart (tOp (rI0 fun i j => .int (i - j)) (tCB (rLenS K) (tCons (tVar i) tNil)) (tC (.int 1))))) σ H (TupIs K (xs.take (xs.length - 1))) := fun H1 e Q q => by
  have h0 : 0 < xs.length := List.length_pos_iff.mpr hx
  refine ⟨.ref a, h, ?_⟩
  refine ev_op (ev_lenS (ev_var h) (.inr (ex_t e hs))) ev_c rv_I0 H1 (Ex.refl H1) _ fun H2 e2 => ?_
  refine ⟨(xs.length : Int) - 1, rfl, a, xs, rfl, ex_t (e.trans e2) hs, fun ⟨_, z⟩ => ?_, fun T nT => ?_⟩
  · rw [show ((xs.length : Int) - 1) = ((xs.length - 1 : Nat) : Int) by omega, show HT.sIx xs.length xs.length (some ((xs.length - 1 : Nat) : Int)) = min (xs.length - 1) xs.length from HT.sIx_nat xs.length xs.length _] at z
    omega
  · refine q _ _ (e2.trans (Ex.new nT)) ⟨T, rfl, ?_⟩
    rw [← cut_init xs hx]
    exact st_of upd_same
end
/-! ### rules for texts -/
section
variable {X : Cx}
def rMulS : R2 := fun x y H Q => ∃ (z : Str) (n : Nat), x = .str z ∧ y = .int (n : Int) ∧ 2 ≤ n ∧ n ≤ 1000 ∧ 1 ≤ z.length ∧ z.length ≤ 1000 ∧ Q (.str ⟨(List.replicate n z.cps.toList).flatten.toArray⟩) H
theorem foldl_cps (l : List Nat) : ∀ (m : Nat) (acc : List Nat), List.foldl (fun x1 x2 => x1 ++ x2) acc.toArray (List.replicate m l.toArray) = (acc ++ (List.replicate m l).flatten).toArray
  | 0, acc => by simp
  | m + 1, acc => by
    rw [List.replicate_succ, List.foldl_cons, show acc.toArray ++ l.toArray = (acc ++ l).toArray by simp, foldl_cps l m (acc ++ l), List.replicate_succ, List.flatten_cons, List.append_assoc]
theorem rep_len (l : List Nat) : ∀ m : Nat, (List.replicate m l).flatten.length = l.length * m
  | 0 => by simp
  | m + 1 => by rw [List.replicate_succ, List.flatten_cons, List.length_append, rep_len l m, Nat.mul_succ]; omega
/-- a text times an int -/
theorem op_mul_str : OpR X (binaryOp .Mult) rMulS := by
  intro pins s σ H x y v u Q I rx ry h
  obtain ⟨z, n, rfl, rfl, hn, hm, h1, h2, q⟩ := h
  obtain ⟨t, rfl⟩ := rx
  obtain ⟨t', rfl⟩ := ry
  have c1 : ¬ ((n : Int) < 1) := by omega
  have c2 : ((n : Int) == 1 || z.length == 0) = false := by
    rw [Bool.or_eq_false_iff]
    exact ⟨by rw [beq_eq_false_iff_ne]; omega, by rw [beq_eq_false_iff_ne]; omega⟩
  have hz : z.length * n ≤ 1000 * 1000 := Nat.mul_le_mul h2 hm
  have hs : 1000 * 1000 ≤ sizeLine := by decide
  have e1 : List.foldl (fun x1 x2 => x1 ++ x2) #[] (List.replicate n z.cps) = (List.replicate n z.cps.toList).flatten.toArray := by
    have := foldl_cps z.cps.toList n []
    rw [List.nil_append] at this
    exact this
  refine PySem.P.mul_str ?_ (fun _ _ => ?_) (fun _ _ => ?_) ?_
  · rw [decide_eq_false (by omega), decide_eq_false (by omega)]; rfl
  · have : (z.length : Int) ≤ (2 ^ 63 - 1) / (n : Int) := (Int.le_ediv_iff_mul_le (by omega)).mpr (by
      have : ((z.length * n : Nat) : Int) ≤ ((1000 * 1000 : Nat) : Int) := Int.ofNat_le.mpr hz
      rw [Int.natCast_mul] at this
      exact Int.le_trans this (by decide))
    omega
  · rw [Int.toNat_natCast]
    exact decide_eq_false (by omega)
  · rw [if_neg c1, if_neg (by rw [c2]; decide), Int.toNat_natCast, e1]
    refine ⟨?_, .str _, H, I.tok _, ⟨_, rfl⟩, q⟩
    show (List.replicate n z.cps.toList).flatten.toArray.size ≤ sizeLine
    rw [List.size_toArray, rep_len]
    exact Nat.le_trans hz hs
/-- str(x) of an int or a text -/
theorem call_str_any : CallR X (.type "str") (fun xs H Q => (∃ i, xs = [.int i] ∧ i.natAbs.log2 < 1920 ∧ Q (.str (toString i)) H) ∨ ∃ a, xs = [.str a] ∧ Q (.str a) H) := by
  intro pins s σ H xs us Q I r h
  rcases h with h | h
  · exact call_str_int pins s σ H xs us Q I r h
  · exact SkE.call_str_str pins s σ H xs us Q I r h
def tKGet2 (K : PySem.W.Frag) (d : Addr) (td ty tx : TE) : TE := fun σ H Q => td σ H fun x H1 => x = .ref d ∧ ty σ H1 fun y H2 => tx σ H2 fun z H3 => ∃ (k : Str) (r : Option Value) (v0 : V), y = .str k ∧ PySem.W.nsIn K d k = some r ∧ (∀ u, r = some u → RelV v0 u) ∧ (r = none → v0 = z) ∧ Q v0 H3
/-- d.get(k, x) of a written dict -/
theorem pe_kdget2 {d : Addr} {es : Array DictEntry} {n : Nat} {o e f : Expr} {td ty tx : TE} {apos cpos : Pos} (D : KDict X.K X.w d es n) (ho : PE X o td) (he : PE X e ty) (hf : PE X f tx) (m : M2 X o "get" apos e f cpos) : PE X (.Call (.Attribute o "get" apos) [e, f] [] cpos) (tKGet2 X.K d td ty tx) := by
  refine ⟨fun pins s σ H Q I h => ?_⟩
  refine wpAny_Call_method m.base m.few m.line PySem.F.plainAttrs_dict PySem.F.slot_dict_get PySem.F.type_dict_get (thn (ho.run pins s σ H _ I h) fun u s1 ⟨x, H1, I1, rx, ex, q1⟩ => ?_)
  subst ex
  obtain rfl : u = Value.ref d := rx
  have M := PySem.W.mapOf_K (prog := X.prog) (w := X.w) I1.kIn D.at_ D.lit
  refine ⟨M.typeIs, M.noDict, ?_⟩
  rw [m.trees]
  refine Calls.callWith_builtin rfl (Calls.evalArgs_plain (Calls.spliced_cons (thn (he.run pins s1 σ H1 _ I1 q1) fun iv s2 ⟨y, H2, I2, ry, q2⟩ =>
    Calls.spliced_cons (thn (hf.run pins s2 σ H2 _ I2 q2) fun fv s3 ⟨z, H3, I3, rz, k, r, v0, ey, er, r1, r2, q3⟩ => Calls.spliced_nil ?_))))
  subst ey
  obtain ⟨t, rfl⟩ := ry
  have M3 := PySem.W.mapOf_K (prog := X.prog) (w := X.w) I3.kIn D.at_ D.lit
  refine call_meetsIn PySem.F.slot_dict_get M3.typeIs PySem.F.entry_dict_get (PySem.F.args_dict_get_3 _ _ _) (meets_dict_get_default (PySem.strKind X.prog X.w) d (PySem.strKind_is X.prog X.w k t) D.low fv) ⟨_, M3, v0, H3, I3.tok _, ?_, q3⟩
  rw [PySem.W.find_K D.at_ er]
  cases r with
  | none => rw [r2 rfl]; exact rz
  | some u => exact r1 u rfl
end
/-! ### zip of a tuple and a list -/
section
variable {prog : Program} {w : World} {A : Around} {E : Value → Shared → Prop} {s : Shared}
abbrev mz1 (h : Heap) (a : Addr) : Heap := h.push { cls := .type "tuple_iterator", data := .fields #[.ref a, .int 0 0] }
abbrev mz2 (h : Heap) (a b : Addr) : Heap := (mz1 h a).push { cls := .type "list_iterator", data := .fields #[.ref b, .int 0 0] }
abbrev mz3 (h : Heap) (a b : Addr) : Heap := (mz2 h a b).push { cls := .type "tuple", data := .seq #[.ref h.objs.size, .ref (mz1 h a).objs.size] }
abbrev mz4 (h : Heap) (a b : Addr) : Heap := (mz3 h a b).push { cls := .type "tuple", data := .seq #[.none, .none] }
abbrev mz5 (h : Heap) (a b : Addr) : Heap := (mz4 h a b).push { cls := .type "zip", data := .fields #[.none, .bool false, .bool false, .ref (mz2 h a b).objs.size, .ref (mz3 h a b).objs.size] }
theorem meets_mz (a b : Addr) (xs ys : Array Value) : Meets (Builtin.«zip.__new__» ⟨[.type "zip", .ref a, .ref b], []⟩) (fun _ R s => s.heap.IsTuple a xs ∧ s.heap.IsList b ys ∧ R (.ok (.ret (.ref (mz4 s.heap a b).objs.size))) { s with heap := mz5 s.heap a b }) :=
  .of_wp fun prog w A R s ⟨ha, hb, h⟩ => by
    obtain ⟨hp, g, d, tk, os⟩ := s
    have hz := sub_zip
    have t1 : Heap.IsTuple (Shared.heap ⟨hp, g, d, tk, os⟩) a xs := ha
    have t2 : Heap.IsList (Shared.heap ⟨hp.push { cls := .type "tuple_iterator", data := .fields #[.ref a, .int 0 0] }, g, d, tk, os⟩) b ys := Heap.IsList.push hb _
    wp_walk using wpAny_pyIter_tuple t1, wpAny_pyIter_list t2; exact ⟨_, rfl, h⟩
theorem call_mz {a b : Addr} {xs ys : Array Value} {Q : Value → Shared → Prop} (ha : s.heap.IsTuple a xs) (hb : s.heap.IsList b ys)
    (h : ∀ h' n, n = s.heap.objs.size → IsZip h' (n + 4) (n + 2) (n + 3) .none → IsTupOf2 h' (n + 2) (.ref n) (.ref (n + 1)) → IsTupOf2 h' (n + 3) .none .none → h'.IsTupleIter n a 0 → h'.IsListIter (n + 1) b 0 → (∀ c o, s.heap.get? c = some o → h'.get? c = some o) → Q (.ref (n + 4)) { s with heap := h' }) :
    wpAny (model prog w) A (call (.type "zip") [.ref a, .ref b]) Q E s := by
  refine callType_new F.called_zip (by decide) (F.typeCall_zip_2 _ _) (F.newCall_zip_2 _ _) (fun obj => F.args_object_init_3 obj _ _) F.entry_zip_new (meets_mz a b xs ys) ⟨ha, hb, ?_⟩
  have z1 : (mz1 s.heap a).objs.size = s.heap.objs.size + 1 := Heap.size_push ..
  have z2 : (mz2 s.heap a b).objs.size = s.heap.objs.size + 2 := by rw [Heap.size_push, z1]
  have z3 : (mz3 s.heap a b).objs.size = s.heap.objs.size + 3 := by rw [Heap.size_push, z2]
  have z4 : (mz4 s.heap a b).objs.size = s.heap.objs.size + 4 := by rw [Heap.size_push, z3]
  have up : ∀ {g : Heap} {o u : Obj} {c : Addr}, g.get? c = some o → (g.push u).get? c = some o := fun e => Heap.get?_push_of_some _ e
  have top : ∀ {g : Heap} {u : Obj}, u.isFreed = false → (g.push u).get? g.objs.size = some u := fun e => Heap.get?_push_size _ e
  have g5 : (mz5 s.heap a b).get? (s.heap.objs.size + 4) = some { cls := .type "zip", data := .fields #[.none, .bool false, .bool false, .ref (s.heap.objs.size + 2), .ref (s.heap.objs.size + 3)] } := by rw [← z4, ← z3, ← z2]; exact top rfl
  have g4 : (mz5 s.heap a b).get? (s.heap.objs.size + 3) = some { cls := .type "tuple", data := .seq #[.none, .none] } := by rw [← z3]; exact up (top rfl)
  have g3 : (mz5 s.heap a b).get? (s.heap.objs.size + 2) = some { cls := .type "tuple", data := .seq #[.ref s.heap.objs.size, .ref (s.heap.objs.size + 1)] } := by rw [← z2, ← z1]; exact up (up (top rfl))
  have g2 : (mz5 s.heap a b).get? (s.heap.objs.size + 1) = some { cls := .type "list_iterator", data := .fields #[.ref b, .int 0 0] } := by rw [← z1]; exact up (up (up (top rfl)))
  have g1 : (mz5 s.heap a b).get? s.heap.objs.size = some { cls := .type "tuple_iterator", data := .fields #[.ref a, .int 0 0] } := up (up (up (up (top rfl))))
  show _ ∧ Q (.ref (mz4 s.heap a b).objs.size) _
  rw [z4]
  exact ⟨⟨_, g5, rfl⟩, h _ _ rfl g5 g3 g4 ⟨_, g1, rfl, rfl⟩ ⟨_, g2, rfl, rfl⟩ fun c o e => up (up (up (up (up e))))⟩
end
/-- the tuple at a and the list at b, the items in new pairs -/
def ItzM (K : PySem.W.Frag) (a b : Addr) : It where
  go := fun i H => ∃ (xs ys : List V) (x y : V), SqT K H a xs ∧ SqL K H b ys ∧ xs[i]? = some x ∧ ys[i]? = some y
  yld := fun i H v H' => ∃ T x y, v = .ref T ∧ H T = none ∧ H' = upd H T (.tup [x, y]) ∧ (∀ xs, SqT K H a xs → xs[i]? = some x) ∧ ∀ ys, SqL K H b ys → ys[i]? = some y
  stop := fun i H => ∃ xs ys : List V, SqT K H a xs ∧ SqL K H b ys ∧ (xs.length = i ∨ ys.length = i) ∧ i ≤ xs.length ∧ i ≤ ys.length
def mzSt (n : Nat) (a b : Addr) (i : Nat) (h : Heap) : Prop := IsZip h (n + 4) (n + 2) (n + 3) .none ∧ IsTupOf2 h (n + 2) (.ref n) (.ref (n + 1)) ∧ (∃ x y, IsTupOf2 h (n + 3) x y) ∧ h.IsTupleIter n a i ∧ h.IsListIter (n + 1) b i
theorem mz_sep {n : Nat} {a b : Addr} (ha : a < n) (hb : b < n) : ZipSep2 (n + 4) (n + 2) (n + 3) n (n + 1) [n, a] [n + 1, b] := by
  have ne : ∀ {x y : Nat}, (x < y ∨ y < x) → x ≠ y := fun h => by omega
  have nm : ∀ {x u v : Nat}, (x < u ∨ u < x) → (x < v ∨ v < x) → x ∉ [u, v] := fun h g z => by
    rcases List.mem_cons.mp z with z | z
    · omega
    · have := List.mem_singleton.mp z; omega
  exact ⟨ne (by omega), ne (by omega), ne (by omega), ne (by omega), by simp, nm (by omega) (.inr (Nat.lt_add_right 4 ha)), nm (by omega) (.inr (Nat.lt_add_right 3 ha)), ne (by omega), by simp, nm (by omega) (.inr (Nat.lt_add_right 4 hb)), nm (by omega) (.inr (Nat.lt_add_right 3 hb)), nm (by omega) (.inr hb), nm (by omega) (.inr (Nat.lt_add_right 1 ha))⟩
theorem mz_turn {P : Program} {w : World} {K : PySem.W.Frag} {elts : List Expr} {kk : Nat} {tpos : Pos} {n : Nat} {a b : Addr} (ha : a < n) (hb : b < n) : Turn P w K (.Tuple elts kk tpos) (ItzM K a b) [n + 4, n + 2, n + 3, n, n + 1] (n + 4) (mzSt n a b) := by
  have five : ∀ {c : Addr}, c ∈ [n + 4, n + 2, n + 3, n, n + 1] → c = n + 4 ∨ c = n + 2 ∨ c = n + 3 ∨ c = n ∨ c = n + 1 := fun h => by simpa using h
  have ne : ∀ {x y : Nat}, (x < y ∨ y < x) → x ≠ y := fun h => by omega
  refine ⟨by simp, fun i h st c hc => ?_, fun i h h' st k => ?_, ?_, ?_, fun A i s Q E st h => wpAny_pyIter_zip st.1 h⟩
  · obtain ⟨hz, hI, ⟨x, y, hO⟩, ⟨o1, e1, _, d1⟩, ⟨o2, e2, _, d2⟩⟩ := st
    rcases five hc with rfl | rfl | rfl | rfl | rfl
    · exact ⟨_, hz, fun v z => by cases z⟩
    · exact ⟨_, hI, fun v z => by cases z⟩
    · exact ⟨_, hO, fun v z => by cases z⟩
    · exact ⟨o1, e1, fun v z => by rw [d1] at z; cases z⟩
    · exact ⟨o2, e2, fun v z => by rw [d2] at z; cases z⟩
  · obtain ⟨hz, hI, ⟨x, y, hO⟩, h1, h2⟩ := st
    exact ⟨k _ (by simp) _ hz, k _ (by simp) _ hI, ⟨x, y, k _ (by simp) _ hO⟩, h1.at fun o z => k n (by simp) o z, h2.at fun o z => k (n + 1) (by simp) o z⟩
  · intro X hP hw hK hc i pins s σ H E I hf st hg
    subst hP hw hK
    obtain ⟨hz, hI, ⟨x0, y0, hO⟩, h1, h2⟩ := st
    obtain ⟨xs, ys, x, y, sx, sy, hx, hy⟩ := hg
    obtain ⟨its, rv, p1, _⟩ := I.tuple sx
    obtain ⟨its2, rv2, p2, _⟩ := I.list sy
    obtain ⟨u, hu, ru⟩ := rv.get hx
    obtain ⟨u2, hu2, ru2⟩ := rv2.get hy
    have hA : X.A.in1.handled = none := I.ok.hd hc
    have l1 : i < its.toArray.size := by rw [List.size_toArray]; exact (List.getElem?_eq_some_iff.mp hu).1
    have l2 : i < its2.toArray.size := by rw [List.size_toArray]; exact (List.getElem?_eq_some_iff.mp hu2).1
    have zl : n + 4 < s.heap.objs.size := Heap.lt_size hz
    refine wpAny_pyNext_zipD2_item (mz_sep ha hb) (Draws.tuple (prog := X.prog) (w := X.w) (A := X.A.in1) hA n a (ne (.inl ha)) its.toArray) (Draws.list (prog := X.prog) (w := X.w) (A := X.A.in1) hA (n + 1) b (ne (.inl (Nat.lt_add_right 1 hb))) its2.toArray) hz hI hO ⟨h1, p1⟩ ⟨h2, p2.isList⟩ l1 l2 fun v1 v2 h' tk q1 q2 z' O' t1 t2 hT hsz hk => ?_
    obtain rfl : v1 = u := Option.some.inj (q1.symm.trans (by rw [List.getElem?_toArray]; exact hu))
    obtain rfl : v2 = u2 := Option.some.inj (q2.symm.trans (by rw [List.getElem?_toArray]; exact hu2))
    refine ⟨_, rfl, wpAny_letOwnedTupleGo_zip (s := { s with heap := h', toks := tk }) z' fun h2' z2 sb => ?_⟩
    have T2 : h2'.get? s.heap.objs.size = some { cls := .type "tuple", data := .seq #[v1, v2] } := (sb.2 _ (Nat.ne_of_gt zl)).trans hT
    have up : ∀ c o, c ≠ n + 4 → c ≠ n + 3 → c ≠ n → c ≠ n + 1 → s.heap.get? c = some o → h2'.get? c = some o := fun c o c1 c2 c3 c4 e => (sb.2 c c1).trans (hk c o c1 c2 c3 c4 e)
    have new : ObjOk X.prog X.w (upd H s.heap.objs.size (.tup [x, y])) h2' s.heap.objs.size (.tup [x, y]) := ⟨by show 2 ≤ sizeLine; decide, [v1, v2], .cons ru (.cons ru2 .nil), ⟨_, T2, rfl, _, rfl⟩⟩
    have J := I.turnedNew (t' := tk) (ch := [n + 4, n + 2, n + 3, n, n + 1]) (fun c o hb q => up c o (fun z => hb (by simp [z])) (fun z => hb (by simp [z])) (fun z => hb (by simp [z])) (fun z => hb (by simp [z])) q) hf (Nat.le_refl _) new
    refine ⟨.ref s.heap.objs.size, _, J, rfl, ⟨_, x, y, rfl, I.hok.fresh (Nat.le_refl _), rfl, fun l hl => by rw [I.tuple_inj hl sx]; exact hx, fun l hl => by rw [I.list_inj hl sy]; exact hy⟩, ⟨z2, up _ _ (ne (by omega)) (ne (by omega)) (ne (by omega)) (ne (by omega)) hI, ⟨v1, v2, (sb.2 _ (ne (by omega))).trans O'⟩, t1.1.at fun o q => (sb.2 _ (ne (by omega))).trans q, t2.1.at fun o q => (sb.2 _ (ne (by omega))).trans q⟩, fun c hc => ?_⟩
    have lt : c < s.heap.objs.size := by
      rcases five hc with rfl | rfl | rfl | rfl | rfl
      · exact zl
      · exact Heap.lt_size hI
      · exact Heap.lt_size hO
      · obtain ⟨_, e1, _⟩ := h1; exact Heap.lt_size e1
      · obtain ⟨_, e2, _⟩ := h2; exact Heap.lt_size e2
    rw [upd_ne (Nat.ne_of_lt lt)]
    exact (hf c hc).1
  · intro X hP hw hK hc i pins s σ H E I hf st hg
    subst hP hw hK
    obtain ⟨hz, hI, ⟨x0, y0, hO⟩, h1, h2⟩ := st
    obtain ⟨xs, ys, sx, sy, hend, hl1, hl2⟩ := hg
    obtain ⟨its, rv, p1, _⟩ := I.tuple sx
    obtain ⟨its2, rv2, p2, _⟩ := I.list sy
    have hA : X.A.in1.handled = none := I.ok.hd hc
    have l1 : xs.length = its.toArray.size := by rw [List.size_toArray]; exact rv.length
    have l2 : ys.length = its2.toArray.size := by rw [List.size_toArray]; exact rv2.length
    exact wpAny_pyNext_zipD2_end (mz_sep ha hb) (Draws.tuple (prog := X.prog) (w := X.w) (A := X.A.in1) hA n a (ne (.inl ha)) its.toArray) (Draws.list (prog := X.prog) (w := X.w) (A := X.A.in1) hA (n + 1) b (ne (.inl (Nat.lt_add_right 1 hb))) its2.toArray) hz hI hO ⟨h1, p1⟩ ⟨h2, p2.isList⟩ (by omega) (by omega) (by omega) fun h' tk hk => ⟨rfl, I.turnedL (t' := tk) (ch := [n + 4, n + 2, n + 3, n, n + 1]) (fun c o hb q =>
      hk c o (fun q' => hb (by simp [q'])) (fun q' => hb (by simp [q'])) (fun q' => hb (by simp [q'])) (fun q' => hb (by simp [q'])) q) hf⟩
/-- zip(t, l) -/
def iZipM (K : PySem.W.Frag) (ta : TA) : TI := fun σ H R => ta σ H fun vs H1 => ∃ a b xs ys, vs = [.ref a, .ref b] ∧ SqT K H1 a xs ∧ SqL K H1 b ys ∧ R (ItzM K a b) H1
theorem pi_zipM {X : Cx} {e e2 : Expr} {ta : TA} {p pos tpos : Pos} {elts : List Expr} {kk : Nat} (hg : Gl X "zip") (hm : X.mg "zip" = none) (ha : PA X [e, e2] ta)
    (hs : starEach [e, e2] X.env = (false, eval e X.env) :: starEach [e2] X.env := by rfl) (hpl : (backTo pos (starEach [e2] X.env)).any (·.1) = false := by rfl) :
    PI X (.Tuple elts kk tpos) (.Call (.Name "zip" p) [e, e2] [] pos) (iZipM X.K ta) := by
  refine ⟨fun pins s σ H R I h => ?_⟩
  refine Call_ (ld_blt I hg hm PyProof.Rows.boot_zip (PyProof.Rows.callWith_type1 (thn (ha.run pos pins s σ H _ I h) fun us s1 hz => ?_) hs hpl))
  obtain ⟨vs, H1, I1, r1, a, b, xs, ys, ex, sx, sy, q⟩ := hz
  subst ex
  match us, r1 with
  | [_, _], .cons rx (.cons ry .nil) =>
    cases rx
    cases ry
    obtain ⟨its, rv, p1, _⟩ := I1.tuple sx
    obtain ⟨its2, rv2, p2, _⟩ := I1.list sy
    have la : a < s1.heap.objs.size := by obtain ⟨o, ho, _⟩ := id p1; exact Heap.lt_size ho
    refine call_mz (show s1.heap.IsTuple a its.toArray from p1) p2.isList fun h' n hn hz hI hO h1 h2 hk => wpAny_pyIter_zip hz ?_
    subst hn
    refine ⟨_, [s1.heap.objs.size + 4, s1.heap.objs.size + 2, s1.heap.objs.size + 3, s1.heap.objs.size, s1.heap.objs.size + 1], _, _, H1, rfl, I1.kept (t' := s1.toks) hk, mz_turn la p2.lt, ⟨hz, hI, ⟨_, _, hO⟩, h1, h2⟩, fun c hc => ?_, q⟩
    have le : s1.heap.objs.size ≤ c := by
      have hc : c = s1.heap.objs.size + 4 ∨ c = s1.heap.objs.size + 2 ∨ c = s1.heap.objs.size + 3 ∨ c = s1.heap.objs.size ∨ c = s1.heap.objs.size + 1 := by simpa using hc
      have : ∀ k : Nat, s1.heap.objs.size ≤ s1.heap.objs.size + k := fun k => Nat.le_add_right _ _
      rcases hc with rfl | rfl | rfl | rfl | rfl
      · exact this 4
      · exact this 2
      · exact this 3
      · exact Nat.le_refl _
      · exact this 1
    exact I1.fpOk le (I1.hok.fresh le)
theorem walk_zipM {K : PySem.W.Frag} {a b : Addr} {xs ys : List V} {n : Nat} (h1 : xs.length = n) (h2 : ys.length = n) : Walk (ItzM K a b) n (fun H => SqT K H a xs ∧ SqL K H b ys) (YPair (fun i => xs[i]?) (fun i => ys[i]?)) := by
  refine ⟨fun i H hi q => ?_, fun H q => ⟨xs, ys, q.1, q.2, .inl h1, by omega, by omega⟩, fun i H v H' hi q y => ?_⟩
  · exact ⟨xs, ys, _, _, q.1, q.2, List.getElem?_eq_getElem (by omega), List.getElem?_eq_getElem (by omega)⟩
  · obtain ⟨T, x, y, rfl, hT, rfl, f1, f2⟩ := y
    exact ⟨T, x, y, rfl, hT, rfl, f1 xs q.1, f2 ys q.2⟩
/-! ### the mathematics of a book's text -/
theorem cat_assoc (a b c : Str) : a ++ b ++ c = a ++ (b ++ c) := TL.ext_tl (by rw [TL.tl_append, TL.tl_append, TL.tl_append, TL.tl_append, List.append_assoc])
theorem cat_empty (a : Str) : a ++ Str.empty = a := TL.ext_tl (by rw [TL.tl_append]; exact List.append_nil _)
theorem empty_cat (a : Str) : Str.empty ++ a = a := TL.ext_tl (by rw [TL.tl_append]; rfl)
theorem cat_len (a b : Str) : (a ++ b).length = a.length + b.length := by rw [TL.len_tl, TL.len_tl, TL.len_tl, TL.tl_append, List.length_append]
theorem empty_is : Str.ofString "" = Str.empty := by decide +kernel
def numT (n : Int) : Str := Str.ofString (toString n)
def itsT : List Int → Str
  | [] => Str.empty
  | n :: r => (Str.ofString " " ++ numT n) ++ itsT r
theorem join_nil : ∀ ys : List Str, Str.join Str.empty ys = ys.foldr (· ++ ·) Str.empty
  | [] => rfl
  | [x] => (cat_empty x).symm
  | x :: z :: r => by
    show x ++ Str.empty ++ Str.join Str.empty (z :: r) = x ++ (z :: r).foldr (· ++ ·) Str.empty
    rw [cat_empty, join_nil (z :: r)]
theorem itsT_fold : ∀ ns : List Int, (ns.map fun n => Str.ofString " " ++ numT n).foldr (· ++ ·) Str.empty = itsT ns
  | [] => rfl
  | n :: r => by rw [List.map_cons, List.foldr_cons, itsT_fold r, itsT]
theorem items_is (ns : List Int) : Txt.join (Str.ofString "") (ns.map fun n => Str.ofString " " ++ numT n) = itsT ns := by
  rw [TL.join_eq, empty_is, join_nil, itsT_fold]
theorem head_is (w : Str) : ∀ ns : List Int, Txt.join (Str.ofString " ") (w :: ns.map numT) = w ++ itsT ns := by
  intro ns
  rw [TL.join_eq]
  induction ns generalizing w with
  | nil => exact (cat_empty w).symm
  | cons n r ih =>
    show w ++ Str.ofString " " ++ Str.join (Str.ofString " ") (numT n :: r.map numT) = _
    rw [ih, itsT, cat_assoc, cat_assoc]
def smI (n : Int) : Prop := -9 ≤ n ∧ n ≤ 9
theorem numT_all : ∀ k : Fin 19, (numT ((k.val : Int) - 9)).length ≤ 2 := by decide +kernel
theorem numT_len {n : Int} (h : smI n) : (numT n).length ≤ 2 := by
  have := numT_all ⟨(n + 9).toNat, by have := h.1; have := h.2; omega⟩
  rwa [show (((n + 9).toNat : Nat) : Int) - 9 = n by have := h.1; omega] at this
theorem one_len : (Str.ofString " ").length = 1 := by decide +kernel
theorem itsT_len : ∀ {ns : List Int}, (∀ n ∈ ns, smI n) → (itsT ns).length ≤ 3 * ns.length
  | [], _ => Nat.le_refl _
  | n :: r, h => by
    rw [itsT, cat_len, cat_len, one_len, List.length_cons]
    have h1 := numT_len (h n (List.mem_cons_self ..))
    have h2 := itsT_len fun x hx => h x (List.mem_cons_of_mem _ hx)
    omega
theorem sum_len {b : Nat} : ∀ (ys : List Str), (∀ y ∈ ys, y.length ≤ b) → (ys.map (·.length)).sum ≤ b * ys.length
  | [], _ => Nat.zero_le _
  | y :: r, h => by
    rw [List.map_cons, List.sum_cons, List.length_cons, Nat.mul_succ]
    have h1 := h y (List.mem_cons_self ..)
    have h2 := sum_len r fun x hx => h x (List.mem_cons_of_mem _ hx)
    omega
/-- the spaces of a level -/
def ind (l : Nat) : Str := ⟨(List.replicate (2 * l + 2) 32).toArray⟩
theorem ind_len (l : Nat) : (ind l).length = 2 * l + 2 := by
  show (List.replicate (2 * l + 2) 32).toArray.size = _
  rw [List.size_toArray, List.length_replicate]
theorem rep_one (c : Nat) : ∀ n : Nat, (List.replicate n [c]).flatten = List.replicate n c
  | 0 => rfl
  | n + 1 => by rw [List.replicate_succ, List.flatten_cons, rep_one c n, List.replicate_succ]; rfl
theorem ind_rep (l : Nat) : (⟨(List.replicate (2 * l + 2) (Str.ofString " ").cps.toList).flatten.toArray⟩ : Str) = ind l := by
  rw [show (Str.ofString " ").cps.toList = [32] by decide +kernel, rep_one]; rfl
theorem ind_zero : ind 0 = Str.ofString "  " := by decide +kernel
theorem ind_succ (l : Nat) : ind l ++ Str.ofString "  " = ind (l + 1) := by
  refine TL.ext_tl ?_
  rw [TL.tl_append, show TL.tl (Str.ofString "  ") = List.replicate 2 32 by decide +kernel]
  show List.replicate (2 * l + 2) 32 ++ List.replicate 2 32 = List.replicate (2 * (l + 1) + 2) 32
  rw [List.replicate_append_replicate, show 2 * l + 2 + 2 = 2 * (l + 1) + 2 by omega]
/-- the word and the numbers of a statement's first line -/
def hdW : Stm → Str
  | .set _ _ => "set"
  | .carry _ => "carry"
  | .keep _ _ => "keep"
  | .either _ _ => "either"
  | .again _ => "again"
  | .call _ _ _ _ => "call"
  | .fin _ => "end"
def hdN : Stm → List Int
  | .set k r => (k : Int) :: r
  | .carry r => r
  | .keep cs _ => cs.map (Nat.cast : Nat → Int)
  | .either _ _ => []
  | .again _ => []
  | .call p r _ _ => (p : Int) :: r
  | .fin w => [(w : Int)]
def hdT (s : Stm) : Str := hdW s ++ itsT (hdN s)
mutual
/-- the lines of a statement at a level -/
def lnS : Stm → Nat → List Str
  | .set k r, l => [ind l ++ hdT (.set k r)]
  | .carry r, l => [ind l ++ hdT (.carry r)]
  | .fin w, l => [ind l ++ hdT (.fin w)]
  | .keep cs b, l => (ind l ++ hdT (.keep cs b)) :: lnL b (l + 1)
  | .again b, l => (ind l ++ hdT (.again b)) :: lnL b (l + 1)
  | .either a b, l => (ind l ++ hdT (.either a b)) :: (lnL a (l + 1) ++ ((ind l ++ "or") :: lnL b (l + 1)))
  | .call p r a b, l => (ind l ++ hdT (.call p r a b)) :: (((ind l ++ "way 0") :: lnL a (l + 1)) ++ ((ind l ++ "way 1") :: lnL b (l + 1)))
def lnL : List Stm → Nat → List Str
  | [], _ => []
  | s :: r, l => lnS s l ++ lnL r l
end
theorem lnL_app : ∀ (a b : List Stm) (l : Nat), lnL (a ++ b) l = lnL a l ++ lnL b l
  | [], b, l => by rw [List.nil_append, lnL, List.nil_append]
  | s :: r, b, l => by rw [List.cons_append, lnL, lnL, lnL_app r b l, List.append_assoc]
mutual
theorem lnS_len : ∀ (s : Stm) (l : Nat), (lnS s l).length ≤ 3 * cnt s
  | .set _ _, l => by rw [lnS, cnt]; simp
  | .carry _, l => by rw [lnS, cnt]; simp
  | .fin _, l => by rw [lnS, cnt]; simp
  | .keep _ b, l => by
    rw [lnS, cnt, List.length_cons]
    have := lnL_len b (l + 1)
    omega
  | .again b, l => by
    rw [lnS, cnt, List.length_cons]
    have := lnL_len b (l + 1)
    omega
  | .either a b, l => by
    rw [lnS, cnt, List.length_cons, List.length_append, List.length_cons]
    have := lnL_len a (l + 1)
    have := lnL_len b (l + 1)
    omega
  | .call _ _ a b, l => by
    rw [lnS, cnt, List.length_cons, List.length_append, List.length_cons, List.length_cons]
    have := lnL_len a (l + 1)
    have := lnL_len b (l + 1)
    omega
theorem lnL_len : ∀ (b : List Stm) (l : Nat), (lnL b l).length ≤ 3 * cntL b
  | [], l => by rw [lnL, cntL]; simp
  | s :: r, l => by
    rw [lnL, cntL, List.length_append]
    have := lnS_len s l
    have := lnL_len r l
    omega
end
theorem hdN_ok {c m lv : Nat} {s : Stm} (h : okS c m s lv) (hc : c ≤ 3) (hm : m ≤ 3) : (∀ n ∈ hdN s, smI n) ∧ (hdN s).length ≤ 6 := by
  have hR : ∀ {r : List Int}, okR c r → (∀ n ∈ r, smI n) ∧ r.length ≤ 5 := fun hr => ⟨hr.2, by rw [hr.1]; omega⟩
  have cons : ∀ {k : Nat} {r : List Int}, k < 3 → ((∀ n ∈ r, smI n) ∧ r.length ≤ 5) → (∀ n ∈ (k : Int) :: r, smI n) ∧ ((k : Int) :: r).length ≤ 6 := fun hk hr =>
    ⟨fun n hn => by
      rcases List.mem_cons.mp hn with rfl | hn
      · exact ⟨by omega, by omega⟩
      · exact hr.1 n hn, by rw [List.length_cons]; have := hr.2; omega⟩
  cases s with
  | set k r =>
    rw [okS] at h
    exact cons (by have := h.1; omega) (hR h.2)
  | carry r =>
    rw [okS] at h
    exact ⟨(hR h).1, by have := (hR h).2; show r.length ≤ 6; omega⟩
  | keep cs b =>
    rw [okS] at h
    refine ⟨fun n hn => ?_, ?_⟩
    · obtain ⟨k, hk, rfl⟩ := List.mem_map.mp hn
      have := h.2.1.2 k hk
      exact ⟨by omega, by omega⟩
    · show (cs.map (Nat.cast : Nat → Int)).length ≤ 6
      have := asc_len h.2.1
      rw [List.length_map]; omega
  | either a b => exact ⟨fun n hn => (nomatch hn), by show 0 ≤ 6; decide⟩
  | again b => exact ⟨fun n hn => (nomatch hn), by show 0 ≤ 6; decide⟩
  | call p r a b =>
    rw [okS] at h
    exact cons (by have := h.2.1; omega) (hR h.2.2.1)
  | fin w =>
    rw [okS] at h
    exact cons (by omega) ⟨fun n hn => (nomatch hn), by show 0 ≤ 5; decide⟩
theorem hdW_len (s : Stm) : (hdW s).length ≤ 6 := by cases s <;> simp only [hdW] <;> decide +kernel
theorem hdT_len {c m lv : Nat} {s : Stm} (h : okS c m s lv) (hc : c ≤ 3) (hm : m ≤ 3) : (hdT s).length ≤ 24 := by
  rw [hdT, cat_len]
  have h1 := hdW_len s
  have h2 := itsT_len (hdN_ok h hc hm).1
  have h3 := (hdN_ok h hc hm).2
  omega
mutual
theorem lnS_short {c m : Nat} (hc : c ≤ 3) (hm : m ≤ 3) : ∀ (s : Stm) {lv : Nat}, okS c m s lv → lv ≤ 3 → ∀ x ∈ lnS s lv, x.length ≤ 60
  | .set k r, lv, h, hl => fun x hx => by
    rw [lnS] at hx
    rw [List.mem_singleton.mp hx, cat_len, ind_len]
    have := hdT_len h hc hm; omega
  | .carry r, lv, h, hl => fun x hx => by
    rw [lnS] at hx
    rw [List.mem_singleton.mp hx, cat_len, ind_len]
    have := hdT_len h hc hm; omega
  | .fin r, lv, h, hl => fun x hx => by
    rw [lnS] at hx
    rw [List.mem_singleton.mp hx, cat_len, ind_len]
    have := hdT_len h hc hm; omega
  | .keep cs b, lv, h, hl => fun x hx => by
    rw [lnS] at hx
    rcases List.mem_cons.mp hx with rfl | hx
    · rw [cat_len, ind_len]
      have := hdT_len h hc hm; omega
    · rw [okS] at h
      exact lnL_short hc hm b h.2.2.2 (by omega) x hx
  | .again b, lv, h, hl => fun x hx => by
    rw [lnS] at hx
    rcases List.mem_cons.mp hx with rfl | hx
    · rw [cat_len, ind_len]
      have := hdT_len h hc hm; omega
    · rw [okS] at h
      exact lnL_short hc hm b h.2.2 (by omega) x hx
  | .either a b, lv, h, hl => fun x hx => by
    rw [lnS] at hx
    have hT := hdT_len h hc hm
    rw [okS] at h
    rcases List.mem_cons.mp hx with rfl | hx
    · rw [cat_len, ind_len]; omega
    · rcases List.mem_append.mp hx with hx | hx
      · exact lnL_short hc hm a h.2.2.1 (by omega) x hx
      · rcases List.mem_cons.mp hx with rfl | hx
        · rw [cat_len, ind_len]
          have : (Str.ofString "or").length = 2 := by decide +kernel
          omega
        · exact lnL_short hc hm b h.2.2.2.2 (by omega) x hx
  | .call p r a b, lv, h, hl => fun x hx => by
    rw [lnS] at hx
    have hT := hdT_len h hc hm
    rw [okS] at h
    have w0 : (Str.ofString "way 0").length = 5 := by decide +kernel
    have w1 : (Str.ofString "way 1").length = 5 := by decide +kernel
    rcases List.mem_cons.mp hx with rfl | hx
    · rw [cat_len, ind_len]; omega
    · rcases List.mem_append.mp hx with hx | hx
      · rcases List.mem_cons.mp hx with rfl | hx
        · rw [cat_len, ind_len]; omega
        · exact lnL_short hc hm a h.2.2.2.2.1 (by omega) x hx
      · rcases List.mem_cons.mp hx with rfl | hx
        · rw [cat_len, ind_len]; omega
        · exact lnL_short hc hm b h.2.2.2.2.2.2 (by omega) x hx
theorem lnL_short {c m : Nat} (hc : c ≤ 3) (hm : m ≤ 3) : ∀ (b : List Stm) {lv : Nat}, okL c m b lv → lv ≤ 3 → ∀ x ∈ lnL b lv, x.length ≤ 60
  | [], lv, h, hl => fun x hx => by
    rw [lnL] at hx
    exact nomatch hx
  | s :: r, lv, h, hl => fun x hx => by
    rw [lnL] at hx
    rw [okL] at h
    rcases List.mem_append.mp hx with hx | hx
    · exact lnS_short hc hm s h.1 hl x hx
    · exact lnL_short hc hm r h.2 hl x hx
end
/-- what stands ahead of the blocks -/
def dvs : Stm → List Str
  | .keep _ _ => [""]
  | .again _ => [""]
  | .either _ _ => ["", "or"]
  | .call _ _ _ _ => ["way 0", "way 1"]
  | _ => []
theorem dvs_len (s : Stm) : (dvs s).length = (blks s).length := by cases s <;> rfl
/-- the lines of the first n blocks -/
def bln (s : Stm) (l : Nat) (n : Nat) : List Str := ((dvs s).zip (blks s) |>.take n).flatMap fun (d, b) => (if d = Str.empty then [] else [ind l ++ d]) ++ lnL b (l + 1)
theorem lnS_is (s : Stm) (l : Nat) : (ind l ++ hdT s) :: bln s l (blks s).length = lnS s l := by
  have e0 : (Str.ofString "" : Str) = Str.empty := empty_is
  have e1 : ¬ (Str.ofString "or" : Str) = Str.empty := by decide +kernel
  have e2 : ¬ (Str.ofString "way 0" : Str) = Str.empty := by decide +kernel
  have e3 : ¬ (Str.ofString "way 1" : Str) = Str.empty := by decide +kernel
  cases s <;> rw [lnS] <;> simp [bln, dvs, blks, e0, e1, e2, e3]
/-- the lines of a book -/
def bkl (k : Nat) : List (List Stm) → List Str
  | [] => []
  | b :: r => ((Str.ofString "to " ++ numT (k : Int)) :: lnL b 0) ++ bkl (k + 1) r
theorem bkl_app : ∀ (a b : List (List Stm)) (k : Nat), bkl k (a ++ b) = bkl k a ++ bkl (k + a.length) b
  | [], b, k => by rw [List.nil_append, bkl, List.nil_append]; rfl
  | s :: r, b, k => by
    rw [List.cons_append, bkl, bkl, bkl_app r b (k + 1), List.append_assoc, List.length_cons, show k + 1 + r.length = k + (r.length + 1) by omega]
abbrev sindent_of : Stmt := topS 37
theorem scindent_of : FnScope ["level"] ["level"] (defScope sindent_of) := ⟨rfl, rfl, rfl, by decide +kernel, rfl, by decide +kernel, by decide +kernel⟩
abbrev shead_of : Stmt := topS 39
theorem schead_of : FnScope ["statement", "word", "items", "item"] ["statement"] (defScope shead_of) := ⟨rfl, rfl, rfl, by decide +kernel, rfl, by decide +kernel, by decide +kernel⟩
abbrev slines_of : Stmt := topS 40
theorem sclines_of : FnScope ["block", "level", "indent", "found", "statement", "divider", "inner"] ["block", "level"] (defScope slines_of) := ⟨rfl, rfl, rfl, by decide +kernel, rfl, by decide +kernel, by decide +kernel⟩
section
variable {P : Program} {w : World} {K : PySem.W.Frag} {mg : Str → Option Value} {base : Heap} {σ : L2.St} {H H' H0 : Hp}
/-! ### a statement's items -/
def ItS (K : PySem.W.Frag) (H : Hp) : Stm → List V → Prop
  | .set k r, xs => ∃ a, xs = [.int (k : Int), .ref a] ∧ SqL K H a (r.map V.int)
  | .carry r, xs => ∃ a, xs = [.ref a] ∧ SqL K H a (r.map V.int)
  | .keep cs b, xs => ∃ a v, xs = [.ref a, v] ∧ SqL K H a ((cs.map (Nat.cast : Nat → Int)).map V.int) ∧ Dp K H v (.list (toDs b))
  | .either a b, xs => ∃ v u, xs = [v, u] ∧ Dp K H v (.list (toDs a)) ∧ Dp K H u (.list (toDs b))
  | .again b, xs => ∃ v, xs = [v] ∧ Dp K H v (.list (toDs b))
  | .call p r a b, xs => ∃ ra B v u, xs = [.int (p : Int), .ref ra, .ref B] ∧ SqL K H ra (r.map V.int) ∧ SqL K H B [v, u] ∧ Dp K H v (.list (toDs a)) ∧ Dp K H u (.list (toDs b))
  | .fin w, xs => xs = [.int (w : Int)]
theorem dp_ints : ∀ {xs : List V} {l : List Int}, DpAll K H xs (l.map PyData.int) → xs = l.map V.int
  | [], [], _ => rfl
  | x :: xs, i :: l, h => by
    cases h with
    | cons a b =>
      cases a
      rw [dp_ints b]; rfl
theorem dp_li {v : V} {l : List Int} (h : Dp K H v (LI l)) : ∃ a, v = .ref a ∧ SqL K H a (l.map V.int) := by
  obtain ⟨a, xs, rfl, s, hx⟩ := dp_lst h
  rw [dp_ints hx] at s
  exact ⟨a, rfl, s⟩
theorem dp_intv {v : V} {i : Int} (h : Dp K H v (.int i)) : v = .int i := by cases h; rfl
theorem stm_items {v : V} {s : Stm} (h : Dp K H v (toD s)) : ∃ t xs, v = .ref t ∧ SqT K H t (.str (hdW s) :: xs) ∧ ItS K H s xs := by
  cases s with
  | set k r =>
    rw [toD] at h
    obtain ⟨t, va, vb, rfl, s, pa, pb⟩ := items3 h
    obtain ⟨a, rfl, sa⟩ := dp_li pb
    rw [dp_intv pa] at s
    exact ⟨t, _, rfl, s, a, rfl, sa⟩
  | carry r =>
    rw [toD] at h
    obtain ⟨t, va, rfl, s, pa⟩ := items2 h
    obtain ⟨a, rfl, sa⟩ := dp_li pa
    exact ⟨t, _, rfl, s, a, rfl, sa⟩
  | keep cs b =>
    rw [toD] at h
    obtain ⟨t, va, vb, rfl, s, pa, pb⟩ := items3 h
    obtain ⟨a, rfl, sa⟩ := dp_li pa
    exact ⟨t, _, rfl, s, a, vb, rfl, sa, pb⟩
  | either a b =>
    rw [toD] at h
    obtain ⟨t, va, vb, rfl, s, pa, pb⟩ := items3 h
    exact ⟨t, _, rfl, s, va, vb, rfl, pa, pb⟩
  | again b =>
    rw [toD] at h
    obtain ⟨t, va, rfl, s, pa⟩ := items2 h
    exact ⟨t, _, rfl, s, va, rfl, pa⟩
  | call p r a b =>
    rw [toD] at h
    obtain ⟨t, va, vb, vc, rfl, s, pa, pb, pc⟩ := items4 h
    obtain ⟨ra, rfl, sa⟩ := dp_li pb
    rw [dp_intv pa] at s
    obtain ⟨B, xs, rfl, sB, hx⟩ := dp_lst pc
    obtain ⟨v0, r0, rfl, p0, q0⟩ := dpa1 hx
    obtain ⟨v1, r1, rfl, p1, q1⟩ := dpa1 q0
    rw [dpa0 q1] at sB
    exact ⟨t, _, rfl, s, ra, B, v0, v1, rfl, sa, sB, p0, p1⟩
  | fin w =>
    rw [toD] at h
    obtain ⟨t, va, rfl, s, pa⟩ := items2 h
    rw [dp_intv pa] at s
    exact ⟨t, _, rfl, s, rfl⟩
/-! ### more of what evaluates to what -/
/-- [e for x in l], the items told one by one -/
theorem el_map {a : Addr} {xs ys : List V} {tl te : TE} {j : Nat} {vs : List Nat} (h : Ev tl σ H (.ref a)) (hx : SqL K H a xs) (hl : xs.length = ys.length) (hz : xs.length ≤ 40000) (hw : ∀ x, wipe ((wipe σ vs).set j (some x)) vs = wipe σ vs)
    (he : ∀ (i : Nat) (x y : V) H1, Ex H H1 → xs[i]? = some x → ys[i]? = some y → Ev te ((wipe σ vs).set j (some x)) H1 y) : EvL (tLc (iList K tl) (gName j) tYes te vs) σ H ys :=
  el_is (el_lcL (fun _ => true) (fun i => ys.getD i .non) h hx hz hw (fun _ _ _ _ _ => et_yes) (fun i x H1 e hi _ => by
    have hi2 : i < ys.length := by have := (List.getElem?_eq_some_iff.mp hi).1; omega
    exact he i x _ H1 e hi (by rw [List.getD_eq_getElem?_getD, List.getElem?_eq_getElem hi2]; rfl))) (by
    rw [given_all, hl]
    refine List.ext_getElem? fun i => ?_
    by_cases hi : i < ys.length
    · rw [List.getElem?_map, List.getElem?_range hi, Option.map_some, List.getD_eq_getElem?_getD, List.getElem?_eq_getElem hi]; rfl
    · rw [List.getElem?_eq_none (by rw [List.length_map, List.length_range]; omega), List.getElem?_eq_none (by omega)])
def rJoin (K : PySem.W.Frag) : V → List V → Hp → VK → Prop := fun x xs H Q => ∃ a p, ∃ ys : List Str, x = .str a ∧ xs = [.ref p] ∧ (SqL K H p (ys.map V.str) ∨ SqT K H p (ys.map V.str)) ∧ (ys.map (·.length)).sum + ys.length * a.length ≤ 16777216 ∧ Q (.str (Txt.join a ys)) H
theorem ev_join {a : Str} {ys : List Str} {to te : TE} (ht : Ev to σ H (.str a)) (hl : EvL te σ H (ys.map V.str)) (hz : (ys.map (·.length)).sum + ys.length * a.length ≤ 16777216) : Ev (tM1 (rJoin K) to te) σ H (.str (Txt.join a ys)) := fun H1 e Q q =>
  ht H1 e _ fun H2 e2 => ⟨⟨_, rfl⟩, hl H2 (e.trans e2) _ fun p H3 _ e3 hp => ⟨a, p, ys, rfl, rfl, .inl (sq_of hp), hz, q H3 (e2.trans e3)⟩⟩
theorem ev_joinV {a : Str} {ys : List Str} {p : Addr} {to te : TE} (ht : Ev to σ H (.str a)) (hl : Ev te σ H (.ref p)) (hp : SqL K H p (ys.map V.str)) (hz : (ys.map (·.length)).sum + ys.length * a.length ≤ 16777216) : Ev (tM1 (rJoin K) to te) σ H (.str (Txt.join a ys)) := fun H1 e Q q =>
  ht H1 e _ fun H2 e2 => ⟨⟨_, rfl⟩, hl H2 (e.trans e2) _ fun H3 e3 => ⟨a, p, ys, rfl, rfl, .inl (ex_l ((e.trans e2).trans e3) hp), hz, q H3 (e2.trans e3)⟩⟩
theorem rv_cat {a b : Str} (h : a.length + b.length ≤ 100000) : RV (fun x y H Q => ∃ i j, x = .str i ∧ y = .str j ∧ i.length + j.length ≤ sizeLine ∧ Q (.str (i ++ j)) H) (.str a) (.str b) H (.str (a ++ b)) := rv_val fun _ _ _ q => ⟨a, b, rfl, rfl, sz_of h, q⟩
/-- *l, .. -/
theorem ea_star {p : Addr} {xs vs : List V} {te : TE} {tr : TA} (h : Ev te σ H (.ref p)) (hp : SqL K H p xs) (hr : EvA tr σ H vs) : EvA (StX.tStar K te tr) σ H (xs ++ vs) := fun H1 e Q q =>
  h H1 e _ fun H2 e2 => ⟨p, xs, rfl, .inr (ex_l (e.trans e2) hp), hr H2 (e.trans e2) _ fun H3 e3 => q H3 (e2.trans e3)⟩
theorem small_log {n : Int} (h : smI n) : n.natAbs.log2 < 1920 := by
  have h1 : n.natAbs ≤ 9 := by have := h.1; have := h.2; omega
  by_cases h0 : n.natAbs = 0
  · rw [h0]; decide
  · exact (Nat.log2_lt h0).mpr (Nat.lt_of_le_of_lt h1 (by decide))
/-! ### the program's text of a statement -/
def spInd : Sp := fun vs H Q _ => ∃ l : Nat, vs = [.int (l : Int)] ∧ l ≤ 100 ∧ ∀ H', Ex H H' → Q (.str (ind l)) H'
theorem ok_indent_of {f : Addr} {fd : FuncData} {k : Nat} (F : Fun K "indent_of" "indent_of" sindent_of f fd) : FnOk P w K mg base CX0 (k + 1) f fd ["level"] spInd := by
  have sc := scindent_of
  refine F.ok sc (fun vs H Q E h => ?_) (fun cdv A outer s H vs Q E hr h => ?_)
  · obtain ⟨l, rfl, _⟩ := h
    rfl
  · obtain ⟨l, rfl, hl, q⟩ := h
    refine ⟨_, (pss_one (ps_ret (pe_op op_mul_str pe_str (pe_op op_add (pe_op op_mul pe_int (pv 0)) pe_int)))), ?_⟩
    refine s_ret (ev_op ev_c (ev_op (ev_op ev_c (ev_var rfl) (rv_I (.inl ⟨by decide, by decide⟩))) ev_c rv_I0) (z := .str (ind l)) (rv_val fun H1 _ Q q => ⟨Str.ofString " ", 2 * l + 2, rfl, congrArg V.int (by omega), by omega, by omega, by decide +kernel, by decide +kernel, ?_⟩)) fun H1 e1 => q H1 e1
    rw [ind_rep]
    exact q
def spHead (K : PySem.W.Frag) : Sp := fun vs H Q _ => ∃ (v : V) (s : Stm) (H0 : Hp), vs = [v] ∧ Ex H0 H ∧ Dp K H0 v (toD s) ∧ (∀ n ∈ hdN s, smI n) ∧ (hdN s).length ≤ 6 ∧ ∀ H', Ex H H' → Q (.str (hdT s)) H'
theorem ok_head_of {f : Addr} {fd : FuncData} {k : Nat} (F : Fun K "head_of" "head_of" shead_of f fd) (z_str : mg "str" = none) : FnOk P w K mg base CX0 (k + 1) f fd ["statement"] (spHead K) := by
  have sc := schead_of
  refine F.ok sc (fun vs H Q E h => ?_) (fun cdv A outer s H vs Q E hr h => ?_)
  · obtain ⟨v, s, H0, rfl, _⟩ := h
    rfl
  · obtain ⟨v, s, H0, rfl, e0, hd, hsm, hln, q⟩ := h
    obtain ⟨t, xs, rfl, st, it⟩ := stm_items hd
    refine ⟨_, (pss_cons (ps_set (i := 1) sc.nd rfl (by first | exact Or.inl rfl | exact Or.inr rfl) (pe_ix ix_tup (pv 0) pe_int (fun _ _ => rfl)))
      (pss_cons (ps_set (i := 2) sc.nd rfl (by first | exact Or.inl rfl | exact Or.inr rfl) (pe_lst (pa_cons (pv 1) pa_nil)))
      (Evl.pss_cut (ps_if (pt_cmpR op_in_seq (pv 1) (pe_tup (pa_cons pe_str (pa_cons pe_str pa_nil))) (by rfl))
      (pss_one (ps_set (i := 2) sc.nd rfl (by first | exact Or.inl rfl | exact Or.inr rfl) (pe_lst (pa_cons (pv 1) (pa_cons (pe_ix ix_tup (pv 0) pe_int (fun _ _ => rfl)) (pa_starK (K := K) rfl (pe_ix ix_tup (pv 0) pe_int (fun _ _ => rfl)) pa_nil))))))
      (pss_one (ps_if (pt_cmpR op_in_seq (pv 1) (pe_tup (pa_cons pe_str (pa_cons pe_str pa_nil))) (by rfl))
      (pss_one (ps_set (i := 2) sc.nd rfl (by first | exact Or.inl rfl | exact Or.inr rfl) (pe_lst (pa_cons (pv 1) (pa_starK (K := K) rfl (pe_ix ix_tup (pv 0) pe_int (fun _ _ => rfl)) pa_nil)))))
      (pss_one (ps_if (pt_cmpR op_eq (pv 1) pe_str (nomark _))
      (pss_one (ps_set (i := 2) sc.nd rfl (by first | exact Or.inl rfl | exact Or.inr rfl) (pe_lst (pa_cons (pv 1) (pa_cons (pe_ix ix_tup (pv 0) pe_int (fun _ _ => rfl)) pa_nil)))))
      pss_nil)))))
      (pss_one (ps_ret (pe_join pe_str (pe_lc (own := [("item", 3)]) (by rfl) sc.nd (pi_list (pv 2)) (blkOk_by (own := [("item", 3)]) (N := ["statement", "word", "items", "item"]) (sc := defScope shead_of) (by decide +kernel)) (fun _ _ _ _ _ => (pg_name (i := 3) sc.nd rfl (by first | exact Or.inl rfl | exact Or.inr rfl))) (fun _ _ _ _ _ => pts_nil) (fun _ _ _ _ _ => (pe_callTy call_str_any (by rfl) z_str (by decide +kernel) (pa_cons (pv 3) pa_nil)))))))))), ?_⟩
    refine q_asg (ev_at (j := 0) (ev_var rfl) (ex_t e0 st) rfl) fun H1 e1 => ?_
    refine q_asgL (el_lst (ea_cons (ev_var rfl) ea_nil) (by show 1 ≤ 100000; decide)) fun L0 H2 n2 e2 h2 => ?_
    have e02 := e0.trans (e1.trans e2)
    have e12 := e1.trans e2
    refine ⟨fun σ' H' => ∃ L, σ' = [some (.ref t), some (.str (hdW s)), some (.ref L), none] ∧ Ex H H' ∧ H' L = some (.lst (.str (hdW s) :: (hdN s).map V.int)), ?_, ?_⟩
    · have ok : ∀ {L : Addr} {H' : Hp}, Ex H2 H' → H' L = some (.lst (.str (hdW s) :: (hdN s).map V.int)) → ∃ L', ([some (.ref t), some (.str (hdW s)), some (.ref L), none] : L2.St) = [some (.ref t), some (.str (hdW s)), some (.ref L'), none] ∧ Ex H H' ∧ H' L' = some (.lst (.str (hdW s) :: (hdN s).map V.int)) := fun e h => ⟨_, rfl, e12.trans e, h⟩
      cases s with
      | set k r =>
        obtain ⟨a, rfl, sa⟩ := it
        refine s_if (b := true) (et_is (et_test (ev_inU (ev_var rfl) (eu_tup (ea_cons ev_c (ea_cons ev_c ea_nil)) (by show 2 ≤ 100000; decide)) rfl rfl)) (by simp only [hdW]; decide +kernel)) (fun _ H3 e3 => ?_) (fun h => (nomatch h))
        refine s_asgL (el_lst (ea_cons (ev_var rfl) (ea_cons (ev_at (j := 1) (ev_var rfl) (ex_t (e02.trans e3) st) rfl) (ea_star (ev_at (j := 2) (ev_var rfl) (ex_t (e02.trans e3) st) rfl) (ex_l (e02.trans e3) sa) ea_nil))) ?_) fun L H4 _ e4 h4 => ok (e3.trans e4) ?_
        · rw [List.append_nil, List.length_cons, List.length_cons, List.length_map]
          have : r.length + 1 ≤ 6 := hln
          omega
        · rw [h4, List.append_nil]; rfl
      | call p r a b =>
        obtain ⟨ra, B, va, vb, rfl, sa, _⟩ := it
        refine s_if (b := true) (et_is (et_test (ev_inU (ev_var rfl) (eu_tup (ea_cons ev_c (ea_cons ev_c ea_nil)) (by show 2 ≤ 100000; decide)) rfl rfl)) (by simp only [hdW]; decide +kernel)) (fun _ H3 e3 => ?_) (fun h => (nomatch h))
        refine s_asgL (el_lst (ea_cons (ev_var rfl) (ea_cons (ev_at (j := 1) (ev_var rfl) (ex_t (e02.trans e3) st) rfl) (ea_star (ev_at (j := 2) (ev_var rfl) (ex_t (e02.trans e3) st) rfl) (ex_l (e02.trans e3) sa) ea_nil))) ?_) fun L H4 _ e4 h4 => ok (e3.trans e4) ?_
        · rw [List.append_nil, List.length_cons, List.length_cons, List.length_map]
          have : r.length + 1 ≤ 6 := hln
          omega
        · rw [h4, List.append_nil]; rfl
      | carry r =>
        obtain ⟨a, rfl, sa⟩ := it
        refine s_if (b := false) (et_is (et_test (ev_inU (ev_var rfl) (eu_tup (ea_cons ev_c (ea_cons ev_c ea_nil)) (by show 2 ≤ 100000; decide)) rfl rfl)) (by simp only [hdW]; decide +kernel)) (fun h => (nomatch h)) fun _ H3 e3 => ?_
        refine s_if (b := true) (et_is (et_test (ev_inU (ev_var rfl) (eu_tup (ea_cons ev_c (ea_cons ev_c ea_nil)) (by show 2 ≤ 100000; decide)) rfl rfl)) (by simp only [hdW]; decide +kernel)) (fun _ H4 e4 => ?_) (fun h => (nomatch h))
        have e34 := e3.trans e4
        refine s_asgL (el_lst (ea_cons (ev_var rfl) (ea_star (ev_at (j := 1) (ev_var rfl) (ex_t (e02.trans e34) st) rfl) (ex_l (e02.trans e34) sa) ea_nil)) ?_) fun L H4 _ e4 h4 => ok (e34.trans e4) ?_
        · rw [List.append_nil, List.length_cons, List.length_map]
          have : r.length ≤ 6 := hln
          omega
        · rw [h4, List.append_nil]; rfl
      | keep cs b =>
        obtain ⟨a, va, rfl, sa, _⟩ := it
        refine s_if (b := false) (et_is (et_test (ev_inU (ev_var rfl) (eu_tup (ea_cons ev_c (ea_cons ev_c ea_nil)) (by show 2 ≤ 100000; decide)) rfl rfl)) (by simp only [hdW]; decide +kernel)) (fun h => (nomatch h)) fun _ H3 e3 => ?_
        refine s_if (b := true) (et_is (et_test (ev_inU (ev_var rfl) (eu_tup (ea_cons ev_c (ea_cons ev_c ea_nil)) (by show 2 ≤ 100000; decide)) rfl rfl)) (by simp only [hdW]; decide +kernel)) (fun _ H4 e4 => ?_) (fun h => (nomatch h))
        have e34 := e3.trans e4
        refine s_asgL (el_lst (ea_cons (ev_var rfl) (ea_star (ev_at (j := 1) (ev_var rfl) (ex_t (e02.trans e34) st) rfl) (ex_l (e02.trans e34) sa) ea_nil)) ?_) fun L H4 _ e4 h4 => ok (e34.trans e4) ?_
        · rw [List.append_nil, List.length_cons, List.length_map]
          have : (cs.map (Nat.cast : Nat → Int)).length ≤ 6 := hln
          omega
        · rw [h4, List.append_nil]; rfl
      | fin w =>
        obtain rfl := it
        refine s_if (b := false) (et_is (et_test (ev_inU (ev_var rfl) (eu_tup (ea_cons ev_c (ea_cons ev_c ea_nil)) (by show 2 ≤ 100000; decide)) rfl rfl)) (by simp only [hdW]; decide +kernel)) (fun h => (nomatch h)) fun _ H3 e3 => ?_
        refine s_if (b := false) (et_is (et_test (ev_inU (ev_var rfl) (eu_tup (ea_cons ev_c (ea_cons ev_c ea_nil)) (by show 2 ≤ 100000; decide)) rfl rfl)) (by simp only [hdW]; decide +kernel)) (fun h => (nomatch h)) fun _ H4 e4 => ?_
        refine s_when (b := true) (et_is (et_test (ev_op (ev_var rfl) ev_c (rv_eq rfl))) (by simp only [hdW]; decide +kernel)) (fun _ H5 e5 => ?_) (fun h => (nomatch h))
        have e35 := (e3.trans e4).trans e5
        exact s_asgL (el_lst (ea_cons (ev_var rfl) (ea_cons (ev_at (j := 1) (ev_var rfl) (ex_t (e02.trans e35) st) rfl) ea_nil)) (by show 2 ≤ 100000; decide)) fun L H6 _ e6 h6 => ok (e35.trans e6) h6
      | either a b =>
        refine s_if (b := false) (et_is (et_test (ev_inU (ev_var rfl) (eu_tup (ea_cons ev_c (ea_cons ev_c ea_nil)) (by show 2 ≤ 100000; decide)) rfl rfl)) (by simp only [hdW]; decide +kernel)) (fun h => (nomatch h)) fun _ H3 e3 => ?_
        refine s_if (b := false) (et_is (et_test (ev_inU (ev_var rfl) (eu_tup (ea_cons ev_c (ea_cons ev_c ea_nil)) (by show 2 ≤ 100000; decide)) rfl rfl)) (by simp only [hdW]; decide +kernel)) (fun h => (nomatch h)) fun _ H4 e4 => ?_
        refine s_when (b := false) (et_is (et_test (ev_op (ev_var rfl) ev_c (rv_eq rfl))) (by show decide (V.str "either" = V.str "end") = false; decide +kernel)) (fun h => (nomatch h)) (fun _ H5 e5 => ?_)
        exact ok ((e3.trans e4).trans e5) (((e3.trans e4).trans e5) _ _ h2)
      | again b =>
        refine s_if (b := false) (et_is (et_test (ev_inU (ev_var rfl) (eu_tup (ea_cons ev_c (ea_cons ev_c ea_nil)) (by show 2 ≤ 100000; decide)) rfl rfl)) (by simp only [hdW]; decide +kernel)) (fun h => (nomatch h)) fun _ H3 e3 => ?_
        refine s_if (b := false) (et_is (et_test (ev_inU (ev_var rfl) (eu_tup (ea_cons ev_c (ea_cons ev_c ea_nil)) (by show 2 ≤ 100000; decide)) rfl rfl)) (by simp only [hdW]; decide +kernel)) (fun h => (nomatch h)) fun _ H4 e4 => ?_
        refine s_when (b := false) (et_is (et_test (ev_op (ev_var rfl) ev_c (rv_eq rfl))) (by show decide (V.str "again" = V.str "end") = false; decide +kernel)) (fun h => (nomatch h)) (fun _ H5 e5 => ?_)
        exact ok ((e3.trans e4).trans e5) (((e3.trans e4).trans e5) _ _ h2)
    · rintro σ' H5 ⟨L, rfl, e5, hL⟩
      have hlen := hdW_len s
      refine s_ret (ev_is (ev_join (ys := hdW s :: (hdN s).map numT) ev_c (el_map (ys := (hdW s :: (hdN s).map numT).map V.str) (ev_var rfl) (sq_of hL) (by rw [List.length_cons, List.length_map, List.length_map, List.length_cons, List.length_map]) (by rw [List.length_cons, List.length_map]; omega) (fun _ => rfl) (fun i x y H6 e6 hx hy => ?_)) ?_) (congrArg V.str (head_is (hdW s) (hdN s)))) fun H6 e6 => q H6 (e5.trans e6)
      · refine ev_cb (ea_cons (ev_var rfl) ea_nil) fun H7 e7 Q7 q7 => ?_
        cases i with
        | zero =>
          cases hx
          cases hy
          exact .inr ⟨_, rfl, q7 H7 (Ex.refl H7)⟩
        | succ i =>
          rw [List.getElem?_cons_succ, List.getElem?_map, Option.map_eq_some_iff] at hx
          obtain ⟨n, hn, rfl⟩ := hx
          rw [List.map_cons, List.getElem?_cons_succ, List.getElem?_map, List.getElem?_map, hn] at hy
          cases hy
          exact .inl ⟨n, rfl, small_log (hsm n (List.mem_of_getElem? hn)), q7 H7 (Ex.refl H7)⟩
      · have h1 := sum_len (b := 6) (hdW s :: (hdN s).map numT) fun y hy => by
          rcases List.mem_cons.mp hy with rfl | hy
          · exact hlen
          · obtain ⟨n, hn, rfl⟩ := List.mem_map.mp hy
            have := numT_len (hsm n hn)
            omega
        rw [List.length_cons, List.length_map] at h1 ⊢
        rw [one_len]
        omega
end
section
variable {P : Program} {w : World} {K : PySem.W.Frag} {mg : Str → Option Value} {base : Heap} {σ : L2.St} {H H' H0 : Hp}
/-- the dividers -/
structure Divs (K : PySem.W.Frag) (w : World) (a : Addr) (es : Array DictEntry) (n : Nat) : Prop where
  d : KDict K w a es n
  g : ∀ s : Stm, ∃ r : Option Value, PySem.W.nsIn K a (hdW s) = some r ∧ (∀ u, r = some u → ∃ t, u = .ref t ∧ ∀ H, SqT K H t ((dvs s).map V.str)) ∧ (r = none → dvs s = [])
theorem blks_blocks {c m lv : Nat} {s : Stm} (h : okS c m s lv) (i : Nat) (b : List Stm) (hb : (blks s)[i]? = some b) : lv < 3 ∧ okL c m b (lv + 1) ∧ b.length ≤ 8 := by
  have two : ∀ {a e : List Stm}, [a, e][i]? = some b → b = a ∨ b = e := fun h => by
    match i, h with
    | 0, h => exact .inl (Option.some.inj h).symm
    | 1, h => exact .inr (Option.some.inj h).symm
    | i + 2, h => cases h
  have one : ∀ {a : List Stm}, [a][i]? = some b → b = a := fun h => by
    match i, h with
    | 0, h => exact (Option.some.inj h).symm
    | i + 1, h => cases h
  cases s with
  | set _ _ => cases hb
  | carry _ => cases hb
  | fin _ => cases hb
  | keep cs a =>
    rw [okS] at h
    rw [one hb]
    exact ⟨h.1, h.2.2.2, h.2.2.1⟩
  | again a =>
    rw [okS] at h
    rw [one hb]
    exact ⟨h.1, h.2.2, h.2.1⟩
  | either a e =>
    rw [okS] at h
    rcases two hb with rfl | rfl
    · exact ⟨h.1, h.2.2.1, h.2.1⟩
    · exact ⟨h.1, h.2.2.2.2, h.2.2.2.1⟩
  | call p r a e =>
    rw [okS] at h
    rcases two hb with rfl | rfl
    · exact ⟨h.1, h.2.2.2.2.1, h.2.2.2.1⟩
    · exact ⟨h.1, h.2.2.2.2.2.2, h.2.2.2.2.2.1⟩
theorem bln_succ {s : Stm} {l n : Nat} {d : Str} {b : List Stm} (hd : (dvs s)[n]? = some d) (hb : (blks s)[n]? = some b) : bln s l (n + 1) = bln s l n ++ ((if d = Str.empty then [] else [ind l ++ d]) ++ lnL b (l + 1)) := by
  rw [bln, List.take_add_one, show ((dvs s).zip (blks s))[n]? = some (d, b) from List.getElem?_zip_eq_some.mpr ⟨hd, hb⟩]
  simp [bln]
theorem lnS_blk {s : Stm} {l : Nat} : (ind l ++ hdT s) :: bln s l (dvs s).length = lnS s l := by rw [dvs_len, lnS_is]
theorem bln_len (s : Stm) (l n : Nat) : (bln s l n).length ≤ 3 * cnt s := by
  have h := congrArg List.length (lnS_is s l)
  rw [List.length_cons] at h
  have h2 := lnS_len s l
  have h3 : (bln s l n).length ≤ (bln s l (blks s).length).length := by
    unfold bln
    rw [show List.take (blks s).length ((dvs s).zip (blks s)) = (dvs s).zip (blks s) from List.take_of_length_le (by rw [List.length_zip, dvs_len]; omega)]
    conv => rhs; rw [← List.take_append_drop n ((dvs s).zip (blks s)), List.flatMap_append]
    rw [List.length_append]
    omega
  omega
theorem dvs_short (s : Stm) (d : Str) (h : d ∈ dvs s) : d.length ≤ 5 := by
  have e0 : (Str.ofString "").length ≤ 5 := by decide +kernel
  have e1 : (Str.ofString "or").length ≤ 5 := by decide +kernel
  have e2 : (Str.ofString "way 0").length ≤ 5 := by decide +kernel
  have e3 : (Str.ofString "way 1").length ≤ 5 := by decide +kernel
  cases s <;> simp only [dvs, List.mem_cons, List.not_mem_nil, or_false] at h
  · rw [h]; exact e0
  · rcases h with rfl | rfl
    · exact e0
    · exact e1
  · rw [h]; exact e0
  · rcases h with rfl | rfl
    · exact e2
    · exact e3
theorem str_len0 {d : Str} : ((d.length : Int) != 0) = !decide (d = Str.empty) := by
  by_cases h : d = Str.empty
  · rw [h, decide_eq_true rfl]; rfl
  · rw [decide_eq_false h]
    have : d.length ≠ 0 := fun z => h (TL.ext_tl (by
      have := TL.len_tl d
      rw [z] at this
      rw [List.length_eq_zero_iff.mp this.symm]; rfl))
    show ((d.length : Int) != 0) = true
    rw [bne_iff_ne]
    omega
/-- the lines of a block, a new list -/
def spLin (K : PySem.W.Frag) (n : Nat) : Sp := fun vs H Q _ => ∃ (v : V) (b : List Stm) (c m lv : Nat) (H0 : Hp), vs = [v, .int (lv : Int)] ∧ lv + n = 5 ∧ lv ≤ 3 ∧ Ex H0 H ∧ Dp K H0 v (.list (toDs b)) ∧ okL c m b lv ∧ c ≤ 3 ∧ m ≤ 3 ∧ b.length ≤ 8 ∧ cntL b ≤ 100 ∧
  ∀ D H', H D = none → Ex H H' → H' D = some (.lst ((lnL b lv).map V.str)) → Q (.ref D) H'
theorem cnt_take : ∀ (b : List Stm) (i : Nat), cntL (b.take i) ≤ cntL b
  | [], i => by rw [List.take_nil]; exact Nat.le_refl _
  | s :: r, 0 => by rw [List.take_zero, cntL]; exact Nat.zero_le _
  | s :: r, i + 1 => by rw [List.take_succ_cons, cntL, cntL]; have := cnt_take r i; omega
theorem cnt_mem : ∀ {b : List Stm} {s : Stm}, s ∈ b → cnt s ≤ cntL b
  | t :: r, s, h => by
    rw [cntL]
    rcases List.mem_cons.mp h with rfl | h
    · omega
    · have := cnt_mem h; omega
theorem cnt_blk {s : Stm} {i : Nat} {b : List Stm} (hb : (blks s)[i]? = some b) : cntL b ≤ cnt s := by
  have two : ∀ {a e : List Stm}, [a, e][i]? = some b → b = a ∨ b = e := fun h => by
    match i, h with
    | 0, h => exact .inl (Option.some.inj h).symm
    | 1, h => exact .inr (Option.some.inj h).symm
    | i + 2, h => cases h
  have one : ∀ {a : List Stm}, [a][i]? = some b → b = a := fun h => by
    match i, h with
    | 0, h => exact (Option.some.inj h).symm
    | i + 1, h => cases h
  cases s with
  | set _ _ => cases hb
  | carry _ => cases hb
  | fin _ => cases hb
  | keep cs a => rw [one hb, cnt]; omega
  | again a => rw [one hb, cnt]; omega
  | either a e => rcases two hb with rfl | rfl <;> rw [cnt] <;> omega
  | call p r a e => rcases two hb with rfl | rfl <;> rw [cnt] <;> omega
theorem lin_step {f a_DIVIDERS : Addr} {fd : FuncData} {n nD kk : Nat} {es : Array DictEntry} (F : Fun K "lines_of" "lines_of" slines_of f fd) (DV : Divs K w a_DIVIDERS es nD) (z_zip : mg "zip" = none) (c_DIVIDERS : mg "DIVIDERS" = some (.ref a_DIVIDERS))
    (Cindent_of : Cal P w K mg base 1 "indent_of" spInd []) (Chead_of : Cal P w K mg base 1 "head_of" (spHead K) []) (Cblocks_of : Cal P w K mg base 1 "blocks_of" (spBlocks K) []) (Clines_of : Cal P w K mg base (kk + n) "lines_of" (spLin K n) []) (hk : 1 ≤ kk) :
    FnOk P w K mg base CX0 (kk + (n + 1)) f fd ["block", "level"] (spLin K (n + 1)) := by
  have sc := sclines_of
  refine F.ok (k := kk + n) sc (fun vs H Q E h => ?_) (fun cdv A outer s H vs Q E hr h => ?_)
  · obtain ⟨v, b, c, m, lv, H0, rfl, _⟩ := h
    rfl
  · obtain ⟨v, b, c, m, lv, H0, rfl, hn, hlv, e0, hd, hok, hc, hm, hbl, hcn, q⟩ := h
    refine ⟨_, (pss_cons (ps_set (i := 2) sc.nd rfl (by first | exact Or.inl rfl | exact Or.inr rfl) (pe_c Cindent_of hr (by omega) (by rfl) (pa_cons (pv 1) pa_nil)))
      (pss_cons (ps_set (i := 3) sc.nd rfl (by first | exact Or.inl rfl | exact Or.inr rfl) (pe_lst pa_nil))
      (pss_cons (ps_for PassesOwn.never rfl (pi_list (pv 0)) (pg_name (i := 4) sc.nd rfl (by first | exact Or.inl rfl | exact Or.inr rfl))
      (pss_cons (ps_expr (pe_bm PySem.F.plainAttrs_list PySem.F.slot_list_append PySem.F.type_list_append mt_append (pv 3) (pa_cons (pe_op op_add_str (pv 2) (pe_c Chead_of hr (by omega) (by rfl) (pa_cons (pv 4) pa_nil))) pa_nil)))
      (pss_one (ps_for PassesOwn.never rfl (pi_zipM (by rfl) z_zip (pa_cons (pe_kdget2 DV.d (pe_glob (v := .ref a_DIVIDERS) (by rfl) c_DIVIDERS rfl) (pe_ix ix_tup (pv 4) pe_int (fun _ _ => rfl)) (pe_tup pa_nil) ⟨rfl, rfl, rfl, rfl⟩) (pa_cons (pe_c Cblocks_of hr (by omega) (by rfl) (pa_cons (pv 4) pa_nil)) pa_nil))) (pg_tup (by rfl) (pgs_cons (pg_name (i := 5) sc.nd rfl (by first | exact Or.inl rfl | exact Or.inr rfl)) (pgs_cons (pg_name (i := 6) sc.nd rfl (by first | exact Or.inl rfl | exact Or.inr rfl)) pgs_nil)))
      (Evl.pss_cut (ps_if (pt_truth (pv 5) (by intro _; rfl))
      (pss_one (ps_expr (pe_bm PySem.F.plainAttrs_list PySem.F.slot_list_append PySem.F.type_list_append mt_append (pv 3) (pa_cons (pe_op op_add_str (pv 2) (pv 5)) pa_nil))))
      pss_nil)
      (pss_one (ps_expr (pe_bm PySem.F.plainAttrs_list PySem.F.slot_list_extend PySem.F.type_list_extend mt_extend (pv 3) (pa_cons (pe_c Clines_of hr (by omega) (by rfl) (pa_cons (pv 6) (pa_cons (pe_op op_add (pv 1) pe_int) pa_nil))) pa_nil)))))))))
      (pss_one (ps_ret (pv 3)))))), ?_⟩
    obtain ⟨B, xs, rfl, hB, hxs⟩ := dp_lst hd
    have lxs : xs.length = b.length := by rw [dpa_len hxs, toDs_len]
    refine q_asg (v := .str (ind lv)) (ev_call (ea_cons (ev_var rfl) ea_nil) fun H1 _ Q q _ => ⟨lv, rfl, by omega, q⟩) fun H1 e1 => ?_
    have e01 := e0.trans e1
    refine q_asgL (el_lst ea_nil (by decide)) fun D H2 nD1 e2 hD2 => ?_
    refine q_forLn (ev_var rfl) (ex_l (e01.trans e2) hB) (fun i σ' H' => ∃ x4 x5 x6 : Option V, σ' = [some (.ref B), some (.int (lv : Int)), some (.str (ind lv)), some (.ref D), x4, x5, x6] ∧ Ex H1 H' ∧ H' D = some (.lst ((lnL (b.take i) lv).map V.str)))
      (fun H3 e3 => ⟨none, none, none, rfl, e2.trans e3, by rw [List.take_zero, lnL]; exact e3 _ _ hD2⟩) (fun i σ' H' _ ⟨_, _, _, _, e, _⟩ => ex_l (e01.trans e) hB) (fun i x σ' H' hx hP => ?_) (fun σ' H' hP => ?_)
    · obtain ⟨x4, x5, x6, rfl, e, hD⟩ := hP
      have hib : i < b.length := by have := (List.getElem?_eq_some_iff.mp hx).1; omega
      obtain ⟨d, hd', dx⟩ := dpa_at2 hxs hx
      rw [toDs_map, List.getElem?_map, List.getElem?_eq_getElem hib] at hd'
      obtain rfl : toD b[i] = d := Option.some.inj hd'
      have hget : b[i]? = some b[i] := List.getElem?_eq_getElem hib
      have hmem := List.getElem_mem hib
      generalize b[i] = st at hget hmem dx hd'
      have hoks := okL_mem hok hmem
      have hcs : cnt st ≤ 100 := Nat.le_trans (cnt_mem hmem) hcn
      have hsm := hdN_ok hoks hc hm
      obtain ⟨t, is, rfl, hst, hit⟩ := stm_items dx
      have lnl : (lnL (b.take i) lv).length ≤ 300 := by
        have h1 := lnL_len (b.take i) lv
        have h2 := cnt_take b i
        omega
      dsimp only
      -- found.append(indent + head_of(statement))
      refine q_app (v := .str (ind lv ++ hdT st)) hD (ev_var rfl) (ev_op (ev_var rfl) (ev_call (z := .str (hdT st)) (ea_cons (ev_var rfl) ea_nil) fun H3 e3 Q q _ => ⟨_, st, H0, rfl, (e01.trans e).trans e3, dx, hsm.1, hsm.2, q⟩) (rv_cat (by rw [ind_len]; have := hdT_len hoks hc hm; omega))) (by rw [List.length_map]; omega) fun H3 e3 => ?_
      have eD3 : Ex H1 (upd H3 D (.lst ((lnL (b.take i) lv).map V.str ++ [V.str (ind lv ++ hdT st)]))) := (e.trans e3).mut nD1
      have hD3 : (upd H3 D (.lst ((lnL (b.take i) lv).map V.str ++ [V.str (ind lv ++ hdT st)]))) D = _ := upd_same
      generalize upd H3 D (.lst ((lnL (b.take i) lv).map V.str ++ [V.str (ind lv ++ hdT st)])) = H4 at eD3 hD3 ⊢
      -- for divider, inner in zip(..)
      obtain ⟨r, hr1, hr2, hr3⟩ := DV.g st
      have s4 := ex_t (e01.trans eD3) hst
      refine ⟨rfl, .ref t, rfl, t, _, 0, .str (hdW st), rfl, rfl, s4, atI_nat (j := 0) rfl, ?_⟩
      refine ⟨by decide, fun T0 nT0 => ?_⟩
      have eT := Ex.new (o := .tup []) nT0
      obtain ⟨v0, hv0, hv1⟩ : ∃ v0 : V, (∀ u, r = some u → RelV v0 u) ∧ (r = none → v0 = .ref T0) ∧ ∃ tt, v0 = .ref tt ∧ SqT K (upd H4 T0 (.tup [])) tt ((dvs st).map V.str) := by
        cases r with
        | none => exact ⟨.ref T0, fun u h => (nomatch h), fun _ => rfl, T0, rfl, by rw [hr3 rfl]; exact st_of upd_same⟩
        | some u =>
          obtain ⟨tt, rfl, ht⟩ := hr2 u rfl
          exact ⟨.ref tt, fun u h => by cases h; exact rfl, fun h => (nomatch h), tt, rfl, ht _⟩
      obtain ⟨hv1, tt, rfl, hsq⟩ := hv1
      refine ⟨hdW st, r, _, rfl, hr1, hv0, hv1, ?_⟩
      have e04 := (e01.trans eD3).trans eT
      refine ⟨.ref t, rfl, .ref t, toD st, c, m, H0, rfl, e04, dx, stm_okD hoks, fun Bl bs H5 nBl e5 hBl hbs => ?_⟩
      rw [blocks_toD] at hbs
      have lbs : bs.length = (blks st).length := by rw [dpa_len hbs, List.length_map]
      have hD5 : H5 D = some (.lst ((lnL (b.take i) lv).map V.str ++ [V.str (ind lv ++ hdT st)])) := e5 _ _ (eT _ _ hD3)
      have hBD : Bl ≠ D := new_ne nBl ⟨_, eT _ _ hD3⟩
      have hs5 : SqT K (Ct D H5) tt ((dvs st).map V.str) := ct_t hD5 (ex_t e5 hsq)
      have hB5 : (Ct D H5) Bl = some (.lst bs) := ct_o hBl hBD
      have e15 : Ex H1 (Ct D H5) := ct_base ((eD3.trans eT).trans e5) nD1
      refine ⟨tt, Bl, _, bs, rfl, ex_t e5 hsq, sq_of hBl, ?_⟩
      refine for_it (walk_zipM (n := (dvs st).length) (by rw [List.length_map]) (by rw [lbs, dvs_len])) (fun j σ' H' => ∃ x5 x6 : Option V, σ' = [some (.ref B), some (.int (lv : Int)), some (.str (ind lv)), some (.ref D), some (.ref t), x5, x6] ∧ Ex (Ct D H5) H' ∧ H' D = some (.lst ((lnL (b.take i) lv ++ ((ind lv ++ hdT st) :: bln st lv j)).map V.str)))
        ⟨x5, x6, rfl, ct_ex, by rw [hD5]; simp [bln]⟩ (fun j σ' H' _ ⟨_, _, _, e6, _⟩ => ⟨ex_t e6 hs5, sq_of (e6 _ _ hB5)⟩) (fun j y σ' H' H'' hj hP Y => ?_) (fun σ' H' hP => ?_)
      · obtain ⟨y5, y6, rfl, e6, hD6⟩ := hP
        obtain ⟨T, x, z, rfl, nT, rfl, hx2, hz2⟩ := Y
        replace hx2 : ((dvs st).map V.str)[j]? = some x := hx2
        replace hz2 : bs[j]? = some z := hz2
        rw [List.getElem?_map, List.getElem?_eq_getElem hj] at hx2
        obtain rfl := Option.some.inj hx2
        have hdj : (dvs st)[j]? = some (dvs st)[j] := List.getElem?_eq_getElem hj
        have hdm := List.getElem_mem hj
        have hjb : j < (blks st).length := by rw [← dvs_len]; exact hj
        have hbj : (blks st)[j]? = some (blks st)[j] := List.getElem?_eq_getElem hjb
        generalize (dvs st)[j] = dv at hdj hdm
        generalize (blks st)[j] = ib at hbj
        obtain ⟨dd, hdd, dz⟩ := dpa_at2 hbs hz2
        rw [List.getElem?_map, hbj] at hdd
        obtain rfl := Option.some.inj hdd
        obtain ⟨hl3, hoki, hli⟩ := blks_blocks hoks j ib hbj
        have hci := cnt_blk hbj
        have lbn := bln_len st lv j
        have eT2 := e6.trans (Ex.new (o := .tup [V.str dv, z]) nT)
        have hD7 : (upd H' T (.tup [V.str dv, z])) D = _ := (Ex.new (o := .tup [V.str dv, z]) nT) _ _ hD6
        have nDc : (Ct D H5) D = none := ct_self
        refine ⟨T, _, rfl, st_of upd_same, rfl, _, _, rfl, _, _, rfl, rfl, ?_⟩
        generalize upd H' T (.tup [V.str dv, z]) = H7 at eT2 hD7 ⊢
        dsimp only
        -- if divider: found.append(indent + divider)
        refine ⟨fun σ' H' => σ' = [some (.ref B), some (.int (lv : Int)), some (.str (ind lv)), some (.ref D), some (.ref t), some (.str dv), some z] ∧ Ex (Ct D H5) H' ∧ H' D = some (.lst ((lnL (b.take i) lv ++ ((ind lv ++ hdT st) :: (bln st lv j ++ (if dv = Str.empty then [] else [ind lv ++ dv])))).map V.str)), ?_, ?_⟩
        · refine ⟨_, rfl, _, ⟨sz_of (by have := dvs_short st dv hdm; omega), rfl⟩, ?_⟩
          rw [str_len0]
          by_cases hde : dv = Str.empty
          · rw [decide_eq_true hde]
            refine ⟨rfl, eT2, ?_⟩
            rw [if_pos hde, List.append_nil]
            exact hD7
          · rw [decide_eq_false hde]
            refine s_app (v := .str (ind lv ++ dv)) hD7 (ev_var rfl) (ev_op (ev_var rfl) (ev_var rfl) (rv_cat (by rw [ind_len]; have := dvs_short st dv hdm; omega))) (by rw [List.length_map, List.length_append, List.length_cons]; omega) fun H8 e8 => ⟨rfl, (eT2.trans e8).mut nDc, ?_⟩
            rw [upd_same, if_neg hde]
            simp
        · rintro σ' H8 ⟨rfl, e8, hD8⟩
          -- found.extend(lines_of(inner, level + 1))
          refine ⟨.ref D, rfl, .inl ⟨rfl, _, sq_of hD8⟩, z, rfl, .int (lv : Int), rfl, (lv : Int), 1, rfl, rfl, ?_⟩
          refine ⟨z, ib, c, m, lv + 1, H0, rfl, by omega, by omega, fun a o ha => e8 _ _ (e15 _ _ (e01 _ _ ha)), dz, hoki, hc, hm, hli, by omega, fun L H9 nL e9 hL => ?_⟩
          have hD9 := e9 _ _ hD8
          refine ⟨D, L, _, _, rfl, rfl, hD9, hL, ?_, ?_⟩
          · have h1 := lnL_len ib (lv + 1)
            refine sz_of ?_
            rw [List.length_map, List.length_map, List.length_append, List.length_cons, List.length_append]
            have : (if dv = Str.empty then ([] : List Str) else [ind lv ++ dv]).length ≤ 1 := by split <;> simp
            omega
          · refine ⟨_, _, rfl, (e8.trans e9).mut nDc, ?_⟩
            rw [upd_same, bln_succ hdj hbj]
            simp
      · obtain ⟨y5, y6, rfl, e6, hD6⟩ := hP
        refine ⟨_, _, _, rfl, e15.trans e6, ?_⟩
        rw [hD6, lnS_blk, List.take_add_one, hget, Option.toList_some, lnL_app]
        simp [lnL]
    · obtain ⟨x4, x5, x6, rfl, e, hD⟩ := hP
      refine s_ret (ev_var rfl) fun H3 e3 => q D H3 (fresh_back e1 nD1) ((e1.trans e).trans e3) ?_
      rw [List.take_of_length_le (by omega)] at hD
      exact e3 _ _ hD
theorem ok_lines_of {f a_DIVIDERS : Addr} {fd : FuncData} {nD kk : Nat} {es : Array DictEntry} (F : Fun K "lines_of" "lines_of" slines_of f fd) (g : mg "lines_of" = some (.ref f)) (b : Binds K fd ["block", "level"] []) (DV : Divs K w a_DIVIDERS es nD) (z_zip : mg "zip" = none) (c_DIVIDERS : mg "DIVIDERS" = some (.ref a_DIVIDERS))
    (Cindent_of : Cal P w K mg base 1 "indent_of" spInd []) (Chead_of : Cal P w K mg base 1 "head_of" (spHead K) []) (Cblocks_of : Cal P w K mg base 1 "blocks_of" (spBlocks K) []) (hk : 1 ≤ kk) : ∀ n, FnOk P w K mg base CX0 (kk + n) f fd ["block", "level"] (spLin K n)
  | 0 => ⟨fun _ _ _ _ ⟨_, _, _, _, _, _, _, h, h2, _⟩ => by omega, fun _ _ _ _ _ _ _ _ _ _ _ _ _ ⟨_, _, _, _, _, _, _, h, h2, _⟩ => by omega⟩
  | n + 1 => lin_step F DV z_zip c_DIVIDERS Cindent_of Chead_of Cblocks_of ⟨f, fd, _, [], ok_lines_of F g b DV z_zip c_DIVIDERS Cindent_of Chead_of Cblocks_of hk n, g, F.kp, b, .nil⟩ hk
end
abbrev sbook_text : Stmt := topS 41
theorem scbook_text : FnScope ["book", "lines", "procedure", "body"] ["book"] (defScope sbook_text) := ⟨rfl, rfl, rfl, by decide +kernel, rfl, by decide +kernel, by decide +kernel⟩
abbrev s_law_items : Stmt := topS 53
theorem sc_law_items : FnScope ["numbers", "number"] ["numbers"] (defScope s_law_items) := ⟨rfl, rfl, rfl, by decide +kernel, rfl, by decide +kernel, by decide +kernel⟩
abbrev s_law_lines : Stmt := topS 54
theorem sc_law_lines : FnScope ["block", "spaces", "lines", "statement"] ["block", "spaces"] (defScope s_law_lines) := ⟨rfl, rfl, rfl, by decide +kernel, rfl, by decide +kernel, by decide +kernel⟩
section
variable {P : Program} {w : World} {K : PySem.W.Frag} {mg : Str → Option Value} {base : Heap} {σ : L2.St} {H H' H0 : Hp}
theorem ea_starN {xs vs : List V} {te : TE} {tr : TA} (h : EvL te σ H xs) (hr : EvA tr σ H vs) : EvA (StX.tStar K te tr) σ H (xs ++ vs) := fun H1 e Q q =>
  h H1 e _ fun p H2 _ e2 hp => ⟨p, xs, rfl, .inr (sq_of hp), hr H2 (e.trans e2) _ fun H3 e3 => q H3 (e2.trans e3)⟩
theorem numT_small {n : Int} (h : smI n) : (numT n).length ≤ 1000 := by have := numT_len h; omega
theorem ev_fmt2 {a : Str} {n : Int} {te : TE} (ha : a.length ≤ 1000) (h : Ev te σ H (.int n)) (hn : smI n) : Ev (fun σ H Q => tJs [tC (.str a), tFmt te] Str.empty σ H fun out H1 => Q (.str out) H1) σ H (.str (a ++ numT n)) := fun H1 e Q q =>
  ⟨a, rfl, sz_of (by rw [empty_cat]; omega), h H1 e _ fun H2 e2 => .inr ⟨n, rfl, small_log hn, numT n, rfl, sz_of (by rw [cat_len, empty_cat]; have := numT_len hn; omega), by
    show Q (.str (Str.empty ++ a ++ numT n)) H2
    rw [empty_cat]
    exact q H2 e2⟩⟩
theorem ev_strI {n : Int} {te : TE} (h : Ev te σ H (.int n)) (hn : smI n) : Ev (tCB (fun xs H Q => ∃ i, xs = [.int i] ∧ i.natAbs.log2 < 1920 ∧ Q (.str (toString i)) H) (tCons te tNil)) σ H (.str (numT n)) :=
  ev_cb (ea_cons h ea_nil) fun H1 _ _ q => ⟨n, rfl, small_log hn, q H1 (Ex.refl H1)⟩
theorem el_cat2 {xs ys : List V} {ta tb : TE} (h1 : EvL ta σ H xs) (h2 : EvL tb σ H ys) (hl : xs.length + ys.length ≤ 100000) : EvL (tOp rCat ta tb) σ H (xs ++ ys) := fun H1 e Q q =>
  h1 H1 e _ fun L H2 nL e2 hL => h2 H2 (e.trans e2) _ fun M H3 nM e3 hM => ⟨L, M, xs, ys, rfl, rfl, e3 _ _ hL, hM, sz_of hl, fun R nR => q R _ (fresh_back (e2.trans e3) nR) ((e2.trans e3).trans (Ex.new nR)) upd_same⟩
theorem el_catN {L : Addr} {xs ys : List V} {ta tb : TE} (h : Ev ta σ H (.ref L)) (hL : H L = some (.lst xs)) (h2 : EvL tb σ H ys) (hl : xs.length + ys.length ≤ 100000) : EvL (tOp rCat ta tb) σ H (xs ++ ys) := fun H1 e Q q =>
  h H1 e _ fun H2 e2 => h2 H2 (e.trans e2) _ fun M H3 nM e3 hM => ⟨L, M, xs, ys, rfl, rfl, ((e.trans e2).trans e3) _ _ hL, hM, sz_of hl, fun R nR => q R _ (fresh_back (e2.trans e3) nR) ((e2.trans e3).trans (Ex.new nR)) upd_same⟩
theorem el_catM {L : Addr} {xs ys : List V} {ta tb : TE} (h1 : EvL ta σ H xs) (h : Ev tb σ H (.ref L)) (hL : H L = some (.lst ys)) (hl : xs.length + ys.length ≤ 100000) : EvL (tOp rCat ta tb) σ H (xs ++ ys) := fun H1 e Q q =>
  h1 H1 e _ fun M H2 nM e2 hM => h H2 (e.trans e2) _ fun H3 e3 => ⟨M, L, xs, ys, rfl, rfl, e3 _ _ hM, ((e.trans e2).trans e3) _ _ hL, sz_of hl, fun R nR => q R _ (fresh_back (e2.trans e3) nR) ((e2.trans e3).trans (Ex.new nR)) upd_same⟩
/-! ### book_text -/
def btx (c : Nat) (bs : List (List Stm)) : Str := Txt.join (Str.ofString "\n") ((Str.ofString "cells " ++ numT (c : Int)) :: bkl 0 bs)
theorem bkl_len : ∀ (bs : List (List Stm)) (k n : Nat), (∀ b ∈ bs, cntL b ≤ n) → (bkl k bs).length ≤ (1 + 3 * n) * bs.length
  | [], k, n, h => by rw [bkl]; exact Nat.zero_le _
  | b :: r, k, n, h => by
    rw [bkl, List.length_append, List.length_cons, List.length_cons, Nat.mul_succ]
    have h1 := lnL_len b 0
    have h2 := h b (List.mem_cons_self ..)
    have h3 := bkl_len r (k + 1) n fun x hx => h x (List.mem_cons_of_mem _ hx)
    omega
theorem bkl_short {c m : Nat} (hc : c ≤ 3) (hm : m ≤ 3) : ∀ (bs : List (List Stm)) (k : Nat), k + bs.length ≤ 3 → (∀ b ∈ bs, okB c m b) → ∀ x ∈ bkl k bs, x.length ≤ 60
  | [], k, hk, h, x, hx => by rw [bkl] at hx; exact nomatch hx
  | b :: r, k, hk, h, x, hx => by
    rw [bkl] at hx
    rw [List.length_cons] at hk
    rcases List.mem_append.mp hx with hx | hx
    · rcases List.mem_cons.mp hx with rfl | hx
      · rw [cat_len]
        have := numT_len (n := (k : Int)) ⟨by omega, by omega⟩
        have : (Str.ofString "to ").length = 3 := by decide +kernel
        omega
      · exact lnL_short hc hm b (h b (List.mem_cons_self ..)).1 (by omega) x hx
    · exact bkl_short hc hm r (k + 1) (by omega) (fun y hy => h y (List.mem_cons_of_mem _ hy)) x hx
theorem btx_fits {c m : Nat} {bs : List (List Stm)} (hc : c ≤ 3) (hm : m ≤ 3) (hl : bs.length ≤ 3) (h : ∀ b ∈ bs, okB c m b) (j : Str) (hj : j.length ≤ 1) :
    (((Str.ofString "cells " ++ numT (c : Int)) :: bkl 0 bs).map (·.length)).sum + ((Str.ofString "cells " ++ numT (c : Int)) :: bkl 0 bs).length * j.length ≤ 16777216 := by
  have h1 := sum_len (b := 60) ((Str.ofString "cells " ++ numT (c : Int)) :: bkl 0 bs) fun y hy => by
    rcases List.mem_cons.mp hy with rfl | hy
    · rw [cat_len]
      have := numT_len (n := (c : Int)) ⟨by omega, by omega⟩
      have : (Str.ofString "cells ").length = 6 := by decide +kernel
      omega
    · exact bkl_short hc hm bs 0 (by omega) h y hy
  have h2 := bkl_len bs 0 12 fun b hb => (h b hb).2.2
  have h3 : (1 + 3 * 12) * bs.length ≤ (1 + 3 * 12) * 3 := Nat.mul_le_mul_left _ hl
  have h4 : ((Str.ofString "cells " ++ numT (c : Int)) :: bkl 0 bs).length * j.length ≤ ((Str.ofString "cells " ++ numT (c : Int)) :: bkl 0 bs).length * 1 := Nat.mul_le_mul_left _ hj
  rw [List.length_cons] at *
  omega
def spText (K : PySem.W.Frag) (C : Addr) : Sp := fun vs H Q _ => ∃ (x : Addr) (c m : Nat) (v : V) (bs : List (List Stm)), vs = [.ref x] ∧ BkO C H x c v ∧ Dp K H v (toB bs) ∧ fit (toB bs) 14 = true ∧ c ≤ 3 ∧ m ≤ 3 ∧ bs.length ≤ 3 ∧ (∀ b ∈ bs, okB c m b) ∧ ∀ H', Ex H H' → Q (.str (btx c bs)) H'
theorem ok_book_text {C f fc fb : Addr} {fd fdc fdb : FuncData} {k : Nat} (F : Fun K "book_text" "book_text" sbook_text f fd) (hcB : Cls K C) (Fcells : FnOk P w K mg base CX0 1 fc fdc ["self"] (spBkCells C)) (mcells : Meth K C "cells" fc) (bcells : Binds K fdc ["self"] [])
    (Fbodies : FnOk P w K mg base CX0 16 fb fdb ["self"] (spBds K C 15)) (mbodies : Meth K C "bodies" fb) (bbodies : Binds K fdb ["self"] []) (z_enumerate : mg "enumerate" = none) (Clines_of : Cal P w K mg base 6 "lines_of" (spLin K 5) []) (hk : 16 ≤ k) : FnOk P w K mg base CX0 (k + 1) f fd ["book"] (spText K C) := by
  have sc := scbook_text
  refine F.ok sc (fun vs H Q E h => ?_) (fun cdv A outer s H vs Q E hr h => ?_)
  · obtain ⟨x, c, m, v, bs, rfl, _⟩ := h
    rfl
  · obtain ⟨x, c, m, v, bs, rfl, ⟨dx, hx⟩, hd, hf, hc, hm, hl, hok, q⟩ := h
    refine ⟨_, (pss_cons (ps_set (i := 1) sc.nd rfl (by first | exact Or.inl rfl | exact Or.inr rfl) (pe_lst (pa_cons (pe_joined (.cons pe_str (.cons (pe_fmt (pe_meth0 (pv 0) hcB mcells Fcells (hr.mono (by omega)) bcells .nil pass0)) .nil))) pa_nil)))
      (pss_cons (ps_for PassesOwn.never rfl (pi_enum (by rfl) z_enumerate (pa_cons (pe_meth0 (pv 0) hcB mbodies Fbodies (hr.mono (by omega)) bbodies .nil pass0) pa_nil)) (pg_tup (by rfl) (pgs_cons (pg_name (i := 2) sc.nd rfl (by first | exact Or.inl rfl | exact Or.inr rfl)) (pgs_cons (pg_name (i := 3) sc.nd rfl (by first | exact Or.inl rfl | exact Or.inr rfl)) pgs_nil)))
      (pss_one (ps_set (i := 1) sc.nd rfl (by first | exact Or.inl rfl | exact Or.inr rfl) (pe_lst (pa_starK (K := K) rfl (pv 1) (pa_cons (pe_joined (.cons pe_str (.cons (pe_fmt (pv 2)) .nil))) (pa_starK (K := K) rfl (pe_c Clines_of hr (by omega) (by rfl) (pa_cons (pv 3) (pa_cons pe_int pa_nil))) pa_nil)))))))
      (pss_one (ps_ret (pe_join pe_str (pv 1)))))), ?_⟩
    have hcs : smI (c : Int) := ⟨by omega, by omega⟩
    refine q_asgL (xs := [.str (Str.ofString "cells " ++ numT (c : Int))]) (el_lst (ea_cons (ev_fmt2 (by decide +kernel) (fun H1 e1 Q q => ⟨.ref x, rfl, x, dx, _, rfl, e1 _ _ hx, rfl, x, c, v, rfl, ⟨dx, e1 _ _ hx⟩, q⟩) hcs) ea_nil) (by show 1 ≤ 100000; decide)) fun L0 H1 nL e1 hL0 => ?_
    refine ⟨.ref x, rfl, x, dx, _, rfl, e1 _ _ hx, rfl, x, c, v, toB bs, 14, rfl, ⟨dx, e1 _ _ hx⟩, dp_ex e1 _ _ hd, hf, rfl, fun v' H2 e2 dq => ?_⟩
    obtain ⟨B, xs, rfl, hB, hxs⟩ := dp_lst (dq_dp (K := K) _ _ dq)
    have lxs : xs.length = bs.length := by rw [dpa_len hxs, List.length_map]
    refine ⟨B, xs, rfl, hB, ?_⟩
    refine for_it walk_enum (fun i σ' H' => ∃ (L : Addr) (x2 x3 : Option V), σ' = [some (.ref x), some (.ref L), x2, x3] ∧ Ex H2 H' ∧ H' L = some (.lst (((Str.ofString "cells " ++ numT (c : Int)) :: bkl 0 (bs.take i)).map V.str)))
      ⟨L0, none, none, rfl, Ex.refl _, by rw [List.take_zero]; exact e2 _ _ hL0⟩ (fun i σ' H' _ ⟨_, _, _, _, e, _⟩ => ex_l e hB) (fun i y σ' H' H'' hi hP Y => ?_) (fun σ' H' hP => ?_)
    · obtain ⟨L, x2, x3, rfl, e, hL⟩ := hP
      obtain ⟨T, y1, y2, rfl, nT, rfl, hy1, hy2⟩ := Y
      cases hy1
      have hib : i < bs.length := by omega
      have hget : bs[i]? = some bs[i] := List.getElem?_eq_getElem hib
      have hmem := List.getElem_mem hib
      generalize bs[i] = b at hget hmem
      obtain ⟨d, hd', dy⟩ := dpa_at2 hxs hy2
      rw [List.getElem?_map, hget] at hd'
      obtain rfl := Option.some.inj hd'
      have hokb := hok b hmem
      have eT := Ex.new (o := .tup [.int (i : Nat), y2]) nT
      have e2T := e.trans eT
      have hLT := eT _ _ hL
      refine ⟨T, _, rfl, st_of upd_same, rfl, _, _, rfl, _, _, rfl, rfl, ?_⟩
      generalize upd H' T (.tup [.int (i : Nat), y2]) = H3 at e2T hLT ⊢
      dsimp only
      have hb1 := bkl_len (bs.take i) 0 12 fun b hb => (hok b (List.mem_of_mem_take hb)).2.2
      have hb2 : (bs.take i).length ≤ 3 := by rw [List.length_take]; omega
      have hb3 : (1 + 3 * 12) * (bs.take i).length ≤ (1 + 3 * 12) * 3 := Nat.mul_le_mul_left _ hb2
      have hb4 := lnL_len b 0
      have hb5 := hokb.2.2
      refine s_asgL (el_lst (ea_star (ev_var rfl) (sq_of hLT) (ea_cons (ev_fmt2 (n := (i : Int)) (by decide +kernel) (ev_var rfl) ⟨by omega, by omega⟩) (ea_starN (xs := (lnL b 0).map V.str) (el_call (ea_cons (ev_var rfl) (ea_cons ev_c ea_nil)) fun H4 e4 Q q _ => ⟨y2, b, c, m, 0, H2, rfl, rfl, by omega, e2T.trans e4, dy, hokb.1, hc, hm, hokb.2.1, by omega, q⟩) ea_nil))) ?_) fun L' H4 nL' e4 hL' => ?_
      · rw [List.length_append, List.length_cons, List.length_append, List.length_map, List.length_map, List.length_cons, List.length_nil]
        omega
      · refine ⟨L', _, _, rfl, e2T.trans e4, ?_⟩
        rw [hL', List.take_add_one, hget, Option.toList_some, bkl_app]
        have : (bs.take i).length = i := by rw [List.length_take]; omega
        rw [this]
        simp [bkl]
    · obtain ⟨L, x2, x3, rfl, e, hL⟩ := hP
      rw [List.take_of_length_le (by omega)] at hL
      exact s_ret (ev_joinV (ys := (Str.ofString "cells " ++ numT (c : Int)) :: bkl 0 bs) ev_c (ev_var rfl) (sq_of hL) (btx_fits hc hm hl hok _ (by decide +kernel))) fun H3 e3 => q H3 ((e1.trans e2).trans (e.trans e3))
/-! ### the law's lines -/
def spItems (K : PySem.W.Frag) : Sp := fun vs H Q _ => ∃ (a : Addr) (ns : List Int), vs = [.ref a] ∧ SqL K H a (ns.map V.int) ∧ (∀ n ∈ ns, smI n) ∧ ns.length ≤ 100 ∧ ∀ H', Ex H H' → Q (.str (itsT ns)) H'
theorem ok_items {f : Addr} {fd : FuncData} {k : Nat} (F : Fun K "_law_items" "_law_items" s_law_items f fd) (z_str : mg "str" = none) : FnOk P w K mg base CX0 (k + 1) f fd ["numbers"] (spItems K) := by
  have sc := sc_law_items
  refine F.ok sc (fun vs H Q E h => ?_) (fun cdv A outer s H vs Q E hr h => ?_)
  · obtain ⟨a, ns, rfl, _⟩ := h
    rfl
  · obtain ⟨a, ns, rfl, ha, hs, hl, q⟩ := h
    refine ⟨_, (pss_one (ps_ret (pe_join pe_str (pe_lc (own := [("number", 1)]) (by rfl) sc.nd (pi_list (pv 0)) (blkOk_by (own := [("number", 1)]) (N := ["numbers", "number"]) (sc := defScope s_law_items) (by decide +kernel)) (fun _ _ _ _ _ => (pg_name (i := 1) sc.nd rfl (by first | exact Or.inl rfl | exact Or.inr rfl))) (fun _ _ _ _ _ => pts_nil) (fun _ _ _ _ _ => (pe_op op_add_str pe_str (pe_callTy call_str_int (by rfl) z_str (by decide +kernel) (pa_cons (pv 1) pa_nil)))))))), ?_⟩
    refine s_ret (ev_is (ev_join (ys := ns.map fun n => Str.ofString " " ++ numT n) ev_c (el_map (ev_var rfl) ha (by rw [List.length_map, List.length_map, List.length_map]) (by rw [List.length_map]; omega) (fun _ => rfl) (fun i x y H6 e6 hx hy => ?_)) ?_) (congrArg V.str (items_is ns))) fun H6 e6 => q H6 e6
    · rw [List.getElem?_map, Option.map_eq_some_iff] at hx
      obtain ⟨n, hn, rfl⟩ := hx
      rw [List.getElem?_map, List.getElem?_map, hn] at hy
      cases hy
      have hsn := hs n (List.mem_of_getElem? hn)
      exact ev_op ev_c (ev_strI (ev_var rfl) hsn) (rv_cat (by have := numT_len hsn; rw [one_len]; omega))
    · have h1 := sum_len (b := 3) (ns.map fun n => Str.ofString " " ++ numT n) fun y hy => by
        obtain ⟨n, hn, rfl⟩ := List.mem_map.mp hy
        have := numT_len (hs n hn)
        rw [cat_len, one_len]
        omega
      rw [List.length_map] at h1 ⊢
      rw [show (Str.ofString "").length = 0 by decide +kernel]
      omega
/-- a statement's items, all tracked -/
def ItQ (N : Addr → Prop) (H : Hp) : Stm → List V → Prop
  | .set k r, xs => ∃ a, xs = [.int (k : Int), .ref a] ∧ H a = some (.lst (r.map V.int))
  | .carry r, xs => ∃ a, xs = [.ref a] ∧ H a = some (.lst (r.map V.int))
  | .keep cs b, xs => ∃ a v, xs = [.ref a, v] ∧ H a = some (.lst ((cs.map (Nat.cast : Nat → Int)).map V.int)) ∧ Dq N H v (.list (toDs b))
  | .either a b, xs => ∃ v u, xs = [v, u] ∧ Dq N H v (.list (toDs a)) ∧ Dq N H u (.list (toDs b))
  | .again b, xs => ∃ v, xs = [v] ∧ Dq N H v (.list (toDs b))
  | .call p r a b, xs => ∃ ra B v u, xs = [.int (p : Int), .ref ra, .ref B] ∧ H ra = some (.lst (r.map V.int)) ∧ H B = some (.lst [v, u]) ∧ Dq N H v (.list (toDs a)) ∧ Dq N H u (.list (toDs b))
  | .fin w, xs => xs = [.int (w : Int)]
variable {N : Addr → Prop}
theorem dqa_vals : ∀ {xs : List V} {l : List Int}, DqAll N H xs (l.map PyData.int) → xs = l.map V.int
  | [], [], _ => rfl
  | x :: xs, i :: l, h => by
    cases h with
    | cons a b =>
      cases a
      rw [dqa_vals b]; rfl
theorem dq_li {v : V} {l : List Int} (h : Dq N H v (LI l)) : ∃ a, v = .ref a ∧ H a = some (.lst (l.map V.int)) := by
  cases h with
  | lst n s a => rw [dqa_vals a] at s; exact ⟨_, rfl, s⟩
theorem dq_tup {v : V} {ds : List PyData} (h : Dq N H v (.tuple ds)) : ∃ a xs, v = .ref a ∧ H a = some (.tup xs) ∧ DqAll N H xs ds := by
  cases h with
  | tup n s a => exact ⟨_, _, rfl, s, a⟩
theorem dq_lst {v : V} {ds : List PyData} (h : Dq N H v (.list ds)) : ∃ a xs, v = .ref a ∧ H a = some (.lst xs) ∧ DqAll N H xs ds := by
  cases h with
  | lst n s a => exact ⟨_, _, rfl, s, a⟩
theorem dqa1 {xs : List V} {d : PyData} {r : List PyData} (h : DqAll N H xs (d :: r)) : ∃ v vr, xs = v :: vr ∧ Dq N H v d ∧ DqAll N H vr r := by
  cases h with
  | cons a b => exact ⟨_, _, rfl, a, b⟩
theorem dqa0 {xs : List V} (h : DqAll N H xs []) : xs = [] := by cases h; rfl
theorem stm_itemsQ {v : V} {s : Stm} (h : Dq N H v (toD s)) : ∃ t xs, v = .ref t ∧ H t = some (.tup (.str (hdW s) :: xs)) ∧ ItQ N H s xs := by
  cases s with
  | set k r =>
    rw [toD] at h
    obtain ⟨t, xs, rfl, s, hx⟩ := dq_tup h
    obtain ⟨v0, r0, rfl, p0, q0⟩ := dqa1 hx
    obtain ⟨v1, r1, rfl, p1, q1⟩ := dqa1 q0
    obtain ⟨v2, r2, rfl, p2, q2⟩ := dqa1 q1
    obtain rfl := dqa0 q2
    cases p0; cases p1
    obtain ⟨a, rfl, sa⟩ := dq_li p2
    exact ⟨t, _, rfl, s, a, rfl, sa⟩
  | carry r =>
    rw [toD] at h
    obtain ⟨t, xs, rfl, s, hx⟩ := dq_tup h
    obtain ⟨v0, r0, rfl, p0, q0⟩ := dqa1 hx
    obtain ⟨v1, r1, rfl, p1, q1⟩ := dqa1 q0
    obtain rfl := dqa0 q1
    cases p0
    obtain ⟨a, rfl, sa⟩ := dq_li p1
    exact ⟨t, _, rfl, s, a, rfl, sa⟩
  | keep cs b =>
    rw [toD] at h
    obtain ⟨t, xs, rfl, s, hx⟩ := dq_tup h
    obtain ⟨v0, r0, rfl, p0, q0⟩ := dqa1 hx
    obtain ⟨v1, r1, rfl, p1, q1⟩ := dqa1 q0
    obtain ⟨v2, r2, rfl, p2, q2⟩ := dqa1 q1
    obtain rfl := dqa0 q2
    cases p0
    obtain ⟨a, rfl, sa⟩ := dq_li p1
    exact ⟨t, _, rfl, s, a, v2, rfl, sa, p2⟩
  | either a b =>
    rw [toD] at h
    obtain ⟨t, xs, rfl, s, hx⟩ := dq_tup h
    obtain ⟨v0, r0, rfl, p0, q0⟩ := dqa1 hx
    obtain ⟨v1, r1, rfl, p1, q1⟩ := dqa1 q0
    obtain ⟨v2, r2, rfl, p2, q2⟩ := dqa1 q1
    obtain rfl := dqa0 q2
    cases p0
    exact ⟨t, _, rfl, s, v1, v2, rfl, p1, p2⟩
  | again b =>
    rw [toD] at h
    obtain ⟨t, xs, rfl, s, hx⟩ := dq_tup h
    obtain ⟨v0, r0, rfl, p0, q0⟩ := dqa1 hx
    obtain ⟨v1, r1, rfl, p1, q1⟩ := dqa1 q0
    obtain rfl := dqa0 q1
    cases p0
    exact ⟨t, _, rfl, s, v1, rfl, p1⟩
  | call p r a b =>
    rw [toD] at h
    obtain ⟨t, xs, rfl, s, hx⟩ := dq_tup h
    obtain ⟨v0, r0, rfl, p0, q0⟩ := dqa1 hx
    obtain ⟨v1, r1, rfl, p1, q1⟩ := dqa1 q0
    obtain ⟨v2, r2, rfl, p2, q2⟩ := dqa1 q1
    obtain ⟨v3, r3, rfl, p3, q3⟩ := dqa1 q2
    obtain rfl := dqa0 q3
    cases p0; cases p1
    obtain ⟨ra, rfl, sa⟩ := dq_li p2
    obtain ⟨B, ys, rfl, sB, hy⟩ := dq_lst p3
    obtain ⟨u0, r0, rfl, g0, k0⟩ := dqa1 hy
    obtain ⟨u1, r1, rfl, g1, k1⟩ := dqa1 k0
    obtain rfl := dqa0 k1
    exact ⟨t, _, rfl, s, ra, B, u0, u1, rfl, sa, sB, g0, g1⟩
  | fin w =>
    rw [toD] at h
    obtain ⟨t, xs, rfl, s, hx⟩ := dq_tup h
    obtain ⟨v0, r0, rfl, p0, q0⟩ := dqa1 hx
    obtain ⟨v1, r1, rfl, p1, q1⟩ := dqa1 q0
    obtain rfl := dqa0 q1
    cases p0; cases p1
    exact ⟨t, _, rfl, s, rfl⟩
def spLLin (K : PySem.W.Frag) (n : Nat) : Sp := fun vs H Q _ => ∃ (v : V) (b : List Stm) (c m lv : Nat) (N : Addr → Prop) (H0 : Hp), vs = [v, .str (ind lv)] ∧ lv + n = 5 ∧ lv ≤ 3 ∧ Ex H0 H ∧ Dq N H0 v (.list (toDs b)) ∧ okL c m b lv ∧ c ≤ 3 ∧ m ≤ 3 ∧ cntL b ≤ 100 ∧
  ∀ D H', H D = none → Ex H H' → H' D = some (.lst ((lnL b lv).map V.str)) → Q (.ref D) H'
theorem two_len : (Str.ofString "  ").length = 2 := by decide +kernel
theorem ev_word {t i : Nat} {xs : List V} {x y : Str} (hσ : σ[i]? = some (some (.ref t))) (ht : H t = some (.tup (.str x :: xs))) {b : Bool} (hb : decide (V.str x = V.str y) = b) : EvT (tTest (tOp rEq (tOp (rIxT K) (tVar i) (tC (.int 0))) (tC (.str y)))) σ H b :=
  et_is (et_test (ev_op (ev_at (j := 0) (ev_var hσ) (st_of ht) rfl) ev_c (rv_eq rfl))) hb
theorem ev_itemsN {te : TE} {ns : List Int} {E : XK} (h : EvL te σ H (ns.map V.int)) (hs : ∀ n ∈ ns, smI n) (hl : ns.length ≤ 100) : Ev (tCall (spItems K) [] E (tCons te tNil)) σ H (.str (itsT ns)) := fun H1 e Q q =>
  h H1 e _ fun p H2 _ e2 hp => ⟨p, ns, rfl, sq_of hp, hs, hl, fun H3 e3 => q H3 (e2.trans e3)⟩
theorem ev_itemsV {te : TE} {ns : List Int} {a : Addr} {E : XK} (h : Ev te σ H (.ref a)) (ha : H a = some (.lst (ns.map V.int))) (hs : ∀ n ∈ ns, smI n) (hl : ns.length ≤ 100) : Ev (tCall (spItems K) [] E (tCons te tNil)) σ H (.str (itsT ns)) := fun H1 e Q q =>
  h H1 e _ fun H2 e2 => ⟨a, ns, rfl, sq_of ((e.trans e2) _ _ ha), hs, hl, fun H3 e3 => q H3 (e2.trans e3)⟩
theorem llin_step {f : Addr} {fd : FuncData} {n kk : Nat} (F : Fun K "_law_lines" "_law_lines" s_law_lines f fd) (C_law_items : Cal P w K mg base 1 "_law_items" (spItems K) []) (C_law_lines : Cal P w K mg base (kk + n) "_law_lines" (spLLin K n) []) (hk : 1 ≤ kk) :
    FnOk P w K mg base CX0 (kk + (n + 1)) f fd ["block", "spaces"] (spLLin K (n + 1)) := by
  have sc := sc_law_lines
  refine F.ok (k := kk + n) sc (fun vs H Q E h => ?_) (fun cdv A outer s H vs Q E hr h => ?_)
  · obtain ⟨v, b, c, m, lv, N, H0, rfl, _⟩ := h
    rfl
  · obtain ⟨v, b, c, m, lv, N, H0, rfl, hn, hlv, e0, hd, hok, hc, hm, hcn, q⟩ := h
    refine ⟨_, (pss_cons (ps_set (i := 2) sc.nd rfl (by first | exact Or.inl rfl | exact Or.inr rfl) (pe_lst pa_nil))
      (pss_cons (ps_for PassesOwn.never rfl (pi_list (pv 0)) (pg_name (i := 3) sc.nd rfl (by first | exact Or.inl rfl | exact Or.inr rfl))
      (pss_one (ps_if (pt_cmpR op_eq (pe_ix ix_tup (pv 3) pe_int (fun _ _ => rfl)) pe_str (nomark _))
      (pss_one (ps_expr (pe_bm PySem.F.plainAttrs_list PySem.F.slot_list_append PySem.F.type_list_append mt_append (pv 2) (pa_cons (pe_op op_add_str (pe_op op_add_str (pv 1) pe_str) (pe_c C_law_items hr (by omega) (by rfl) (pa_cons (pe_op op_cat (pe_lst (pa_cons (pe_ix ix_tup (pv 3) pe_int (fun _ _ => rfl)) pa_nil)) (pe_ix ix_tup (pv 3) pe_int (fun _ _ => rfl))) pa_nil))) pa_nil))))
      (pss_one (ps_if (pt_cmpR op_eq (pe_ix ix_tup (pv 3) pe_int (fun _ _ => rfl)) pe_str (nomark _))
      (pss_one (ps_expr (pe_bm PySem.F.plainAttrs_list PySem.F.slot_list_append PySem.F.type_list_append mt_append (pv 2) (pa_cons (pe_op op_add_str (pe_op op_add_str (pv 1) pe_str) (pe_c C_law_items hr (by omega) (by rfl) (pa_cons (pe_ix ix_tup (pv 3) pe_int (fun _ _ => rfl)) pa_nil))) pa_nil))))
      (pss_one (ps_if (pt_cmpR op_eq (pe_ix ix_tup (pv 3) pe_int (fun _ _ => rfl)) pe_str (nomark _))
      (pss_one (ps_expr (pe_bm PySem.F.plainAttrs_list PySem.F.slot_list_append PySem.F.type_list_append mt_append (pv 2) (pa_cons (pe_op op_add_str (pe_op op_add_str (pv 1) pe_str) (pe_c C_law_items hr (by omega) (by rfl) (pa_cons (pe_lst (pa_cons (pe_ix ix_tup (pv 3) pe_int (fun _ _ => rfl)) pa_nil)) pa_nil))) pa_nil))))
      (pss_one (ps_if (pt_cmpR op_eq (pe_ix ix_tup (pv 3) pe_int (fun _ _ => rfl)) pe_str (nomark _))
      (pss_cons (ps_expr (pe_bm PySem.F.plainAttrs_list PySem.F.slot_list_append PySem.F.type_list_append mt_append (pv 2) (pa_cons (pe_op op_add_str (pe_op op_add_str (pv 1) pe_str) (pe_c C_law_items hr (by omega) (by rfl) (pa_cons (pe_ix ix_tup (pv 3) pe_int (fun _ _ => rfl)) pa_nil))) pa_nil)))
      (pss_one (ps_set (i := 2) sc.nd rfl (by first | exact Or.inl rfl | exact Or.inr rfl) (pe_op op_cat (pv 2) (pe_c C_law_lines hr (by omega) (by rfl) (pa_cons (pe_ix ix_tup (pv 3) pe_int (fun _ _ => rfl)) (pa_cons (pe_op op_add_str (pv 1) pe_str) pa_nil)))))))
      (pss_one (ps_if (pt_cmpR op_eq (pe_ix ix_tup (pv 3) pe_int (fun _ _ => rfl)) pe_str (nomark _))
      (pss_one (ps_set (i := 2) sc.nd rfl (by first | exact Or.inl rfl | exact Or.inr rfl) (pe_op op_cat (pe_op op_cat (pv 2) (pe_lst (pa_cons (pe_op op_add_str (pv 1) pe_str) pa_nil))) (pe_c C_law_lines hr (by omega) (by rfl) (pa_cons (pe_ix ix_tup (pv 3) pe_int (fun _ _ => rfl)) (pa_cons (pe_op op_add_str (pv 1) pe_str) pa_nil))))))
      (pss_one (ps_if (pt_cmpR op_eq (pe_ix ix_tup (pv 3) pe_int (fun _ _ => rfl)) pe_str (nomark _))
      (pss_cons (ps_set (i := 2) sc.nd rfl (by first | exact Or.inl rfl | exact Or.inr rfl) (pe_op op_cat (pe_op op_cat (pv 2) (pe_lst (pa_cons (pe_op op_add_str (pv 1) pe_str) pa_nil))) (pe_c C_law_lines hr (by omega) (by rfl) (pa_cons (pe_ix ix_tup (pv 3) pe_int (fun _ _ => rfl)) (pa_cons (pe_op op_add_str (pv 1) pe_str) pa_nil)))))
      (pss_one (ps_set (i := 2) sc.nd rfl (by first | exact Or.inl rfl | exact Or.inr rfl) (pe_op op_cat (pe_op op_cat (pv 2) (pe_lst (pa_cons (pe_op op_add_str (pv 1) pe_str) pa_nil))) (pe_c C_law_lines hr (by omega) (by rfl) (pa_cons (pe_ix ix_tup (pv 3) pe_int (fun _ _ => rfl)) (pa_cons (pe_op op_add_str (pv 1) pe_str) pa_nil)))))))
      (pss_cons (ps_expr (pe_bm PySem.F.plainAttrs_list PySem.F.slot_list_append PySem.F.type_list_append mt_append (pv 2) (pa_cons (pe_op op_add_str (pe_op op_add_str (pv 1) pe_str) (pe_c C_law_items hr (by omega) (by rfl) (pa_cons (pe_op op_cat (pe_lst (pa_cons (pe_ix ix_tup (pv 3) pe_int (fun _ _ => rfl)) pa_nil)) (pe_ix ix_tup (pv 3) pe_int (fun _ _ => rfl))) pa_nil))) pa_nil)))
      (pss_cons (ps_set (i := 2) sc.nd rfl (by first | exact Or.inl rfl | exact Or.inr rfl) (pe_op op_cat (pe_op op_cat (pv 2) (pe_lst (pa_cons (pe_op op_add_str (pv 1) pe_str) pa_nil))) (pe_c C_law_lines hr (by omega) (by rfl) (pa_cons (pe_ix ix_list (pe_ix ix_tup (pv 3) pe_int (fun _ _ => rfl)) pe_int (fun _ _ => rfl)) (pa_cons (pe_op op_add_str (pv 1) pe_str) pa_nil)))))
      (pss_one (ps_set (i := 2) sc.nd rfl (by first | exact Or.inl rfl | exact Or.inr rfl) (pe_op op_cat (pe_op op_cat (pv 2) (pe_lst (pa_cons (pe_op op_add_str (pv 1) pe_str) pa_nil))) (pe_c C_law_lines hr (by omega) (by rfl) (pa_cons (pe_ix ix_list (pe_ix ix_tup (pv 3) pe_int (fun _ _ => rfl)) pe_int (fun _ _ => rfl)) (pa_cons (pe_op op_add_str (pv 1) pe_str) pa_nil)))))))))))))))))))))
      (pss_one (ps_ret (pv 2))))), ?_⟩
    obtain ⟨B, xs, rfl, hB, hxs⟩ := dq_lst hd
    have lxs : xs.length = b.length := by rw [dqa_len hxs, toDs_len]
    refine q_asgL (el_lst ea_nil (by decide)) fun D0 H2 nD0 e2 hD2 => ?_
    refine q_forLn (ev_var rfl) (sq_of ((e0.trans e2) _ _ hB)) (fun i σ' H' => ∃ (D : Addr) (x3 : Option V), σ' = [some (.ref B), some (.str (ind lv)), some (.ref D), x3] ∧ Ex H H' ∧ H D = none ∧ H' D = some (.lst ((lnL (b.take i) lv).map V.str)))
      (fun H3 e3 => ⟨D0, none, rfl, e2.trans e3, nD0, by rw [List.take_zero, lnL]; exact e3 _ _ hD2⟩) (fun i σ' H' _ ⟨_, _, _, e, _⟩ => sq_of ((e0.trans e) _ _ hB)) (fun i x σ' H' hx hP => ?_) (fun σ' H' hP => ?_)
    · obtain ⟨D, x3, rfl, e, nD, hD⟩ := hP
      have hib : i < b.length := by have := (List.getElem?_eq_some_iff.mp hx).1; omega
      obtain ⟨d, hd', dx⟩ := dqa_at hxs hx
      rw [toDs_map, List.getElem?_map, List.getElem?_eq_getElem hib] at hd'
      obtain rfl : toD b[i] = d := Option.some.inj hd'
      have hget : b[i]? = some b[i] := List.getElem?_eq_getElem hib
      have hmem := List.getElem_mem hib
      generalize b[i] = st at hget hmem dx hd'
      have hoks := okL_mem hok hmem
      have hcs : cnt st ≤ 100 := Nat.le_trans (cnt_mem hmem) hcn
      have hsm := hdN_ok hoks hc hm
      have hhd := hdT_len hoks hc hm
      obtain ⟨t, is, rfl, hst, hit⟩ := stm_itemsQ dx
      have lnl : (lnL (b.take i) lv).length ≤ 300 := by
        have h1 := lnL_len (b.take i) lv
        have h2 := cnt_take b i
        omega
      have e0' := e0.trans e
      have ht := e0' _ _ hst
      have hil := ind_len lv
      dsimp only
      have nxt : ∀ {D' : Addr} {H3 : Hp}, Ex H H3 → H D' = none → H3 D' = some (.lst ((lnL (b.take i) lv ++ lnS st lv).map V.str)) → ∃ (D : Addr) (x3 : Option V), ([some (.ref B), some (.str (ind lv)), some (.ref D'), some (.ref t)] : L2.St) = [some (.ref B), some (.str (ind lv)), some (.ref D), x3] ∧ Ex H H3 ∧ H D = none ∧ H3 D = some (.lst ((lnL (b.take (i + 1)) lv).map V.str)) := fun e3 n3 h3 => ⟨_, _, rfl, e3, n3, by
        rw [h3, List.take_add_one, hget, Option.toList_some, lnL_app]
        simp [lnL]⟩
      have inner : ∀ {H3 : Hp} {ib : List Stm} {v : V} {te : TE} {E : XK} (e3 : Ex H0 H3), Ev te [some (.ref B), some (.str (ind lv)), some (.ref D), some (.ref t)] H3 v → Dq N H0 v (.list (toDs ib)) → okL c m ib (lv + 1) → lv < 3 → cntL ib ≤ 100 →
          EvL (tCall (spLLin K n) [] E (tCons te (tCons (tOp (fun x y H Q => ∃ i j, x = .str i ∧ y = .str j ∧ i.length + j.length ≤ sizeLine ∧ Q (.str (i ++ j)) H) (tVar 1) (tC (.str "  "))) tNil))) [some (.ref B), some (.str (ind lv)), some (.ref D), some (.ref t)] H3 ((lnL ib (lv + 1)).map V.str) := fun {H3 ib v te E} e3 hv dv hi hl3 hci =>
        el_call (vs := [v, .str (ind (lv + 1))]) (ea_cons hv (ea_cons (ev_is (ev_op (ev_var rfl) ev_c (rv_cat (by rw [hil, two_len]; omega))) (congrArg V.str (ind_succ lv))) ea_nil)) fun H4 e4 Q q _ => ⟨v, ib, c, m, lv + 1, N, H0, rfl, by omega, by omega, e3.trans e4, dv, hi, hc, hm, hci, q⟩
      have inner2 : ∀ {D' : Addr} {H3 : Hp} {ib : List Stm} {v : V} {te : TE} {E : XK} (e3 : Ex H0 H3), Ev te [some (.ref B), some (.str (ind lv)), some (.ref D'), some (.ref t)] H3 v → Dq N H0 v (.list (toDs ib)) → okL c m ib (lv + 1) → lv < 3 → cntL ib ≤ 100 →
          EvL (tCall (spLLin K n) [] E (tCons te (tCons (tOp (fun x y H Q => ∃ i j, x = .str i ∧ y = .str j ∧ i.length + j.length ≤ sizeLine ∧ Q (.str (i ++ j)) H) (tVar 1) (tC (.str "  "))) tNil))) [some (.ref B), some (.str (ind lv)), some (.ref D'), some (.ref t)] H3 ((lnL ib (lv + 1)).map V.str) := fun {D' H3 ib v te E} e3 hv dv hi hl3 hci =>
        el_call (vs := [v, .str (ind (lv + 1))]) (ea_cons hv (ea_cons (ev_is (ev_op (ev_var rfl) ev_c (rv_cat (by rw [hil, two_len]; omega))) (congrArg V.str (ind_succ lv))) ea_nil)) fun H4 e4 Q q _ => ⟨v, ib, c, m, lv + 1, N, H0, rfl, by omega, by omega, e3.trans e4, dv, hi, hc, hm, hci, q⟩
      have line : ∀ {D' : Addr} {H3 : Hp} {z : Str}, z.length ≤ 10 → Ev (tOp (fun x y H Q => ∃ i j, x = .str i ∧ y = .str j ∧ i.length + j.length ≤ sizeLine ∧ Q (.str (i ++ j)) H) (tVar 1) (tC (.str z))) [some (.ref B), some (.str (ind lv)), some (.ref D'), some (.ref t)] H3 (.str (ind lv ++ z)) := fun hz => ev_op (ev_var rfl) ev_c (rv_cat (by rw [hil]; omega))
      have head : ∀ {H3 : Hp} {te : TE} {W : Str} {ns : List Int}, W = hdW st → ns = hdN st → Ev te [some (.ref B), some (.str (ind lv)), some (.ref D), some (.ref t)] H3 (.str (itsT ns)) → Ev (tOp (fun x y H Q => ∃ i j, x = .str i ∧ y = .str j ∧ i.length + j.length ≤ sizeLine ∧ Q (.str (i ++ j)) H) (tOp (fun x y H Q => ∃ i j, x = .str i ∧ y = .str j ∧ i.length + j.length ≤ sizeLine ∧ Q (.str (i ++ j)) H) (tVar 1) (tC (.str W))) te) [some (.ref B), some (.str (ind lv)), some (.ref D), some (.ref t)] H3 (.str (ind lv ++ hdT st)) := fun hW hN hv => by
        subst hW hN
        have h1 := hdW_len st
        rw [hdT, cat_len] at hhd
        exact ev_is (ev_op (ev_op (ev_var rfl) ev_c (rv_cat (by rw [hil]; omega))) hv (rv_cat (by rw [cat_len, hil]; omega))) (congrArg V.str (cat_assoc _ _ _))
      cases st with
      | set k r =>
        obtain ⟨a, rfl, sa⟩ := hit
        replace ht : H' t = some (.tup (.str "set" :: _)) := ht
        refine s_if (b := true) (ev_word rfl ht (by decide +kernel)) (fun _ H3 e3 => ?_) (fun h => (nomatch h))
        have e03 := e0'.trans e3
        refine s_app (e3 _ _ hD) (ev_var rfl) (head (ns := (k : Int) :: r) rfl rfl (ev_itemsN (ns := (k : Int) :: r) (el_catM (el_lst (ea_cons (ev_at (j := 1) (ev_var rfl) (st_of (e03 _ _ hst)) rfl) ea_nil) (by show 1 ≤ 100000; decide)) (ev_at (j := 2) (ev_var rfl) (st_of (e03 _ _ hst)) rfl) (e03 _ _ sa) ?_) hsm.1 (Nat.le_trans hsm.2 (by decide)))) (by rw [List.length_map]; omega) fun H4 e4 => nxt (((e.trans e3).trans e4).mut nD) nD ?_
        · rw [List.length_map, List.length_singleton]
          have : r.length + 1 ≤ 6 := hsm.2
          omega
        · rw [upd_same, lnS]
          simp
      | carry r =>
        obtain ⟨a, rfl, sa⟩ := hit
        replace ht : H' t = some (.tup (.str "carry" :: _)) := ht
        refine s_if (b := false) (ev_word rfl ht (by decide +kernel)) (fun h => (nomatch h)) fun _ H3 e3 => ?_
        refine s_if (b := true) (ev_word rfl (e3 _ _ ht) (by decide +kernel)) (fun _ H4 e4 => ?_) (fun h => (nomatch h))
        have e34 := e3.trans e4
        have e03 := e0'.trans e34
        refine s_app (e34 _ _ hD) (ev_var rfl) (head (ns := r) rfl rfl (ev_itemsV (ev_at (j := 1) (ev_var rfl) (st_of (e03 _ _ hst)) rfl) (e03 _ _ sa) hsm.1 (Nat.le_trans hsm.2 (by decide)))) (by rw [List.length_map]; omega) fun H5 e5 => nxt (((e.trans e34).trans e5).mut nD) nD ?_
        rw [upd_same, lnS]
        simp
      | fin w =>
        obtain rfl := hit
        replace ht : H' t = some (.tup (.str "end" :: _)) := ht
        refine s_if (b := false) (ev_word rfl ht (by decide +kernel)) (fun h => (nomatch h)) fun _ H3 e3 => ?_
        refine s_if (b := false) (ev_word rfl (e3 _ _ ht) (by decide +kernel)) (fun h => (nomatch h)) fun _ H4 e4 => ?_
        have e34 := e3.trans e4
        refine s_if (b := true) (ev_word rfl (e34 _ _ ht) (by decide +kernel)) (fun _ H5 e5 => ?_) (fun h => (nomatch h))
        have e35 := e34.trans e5
        have e03 := e0'.trans e35
        refine s_app (e35 _ _ hD) (ev_var rfl) (head (ns := [(w : Int)]) rfl rfl (ev_itemsN (ns := [(w : Int)]) (el_lst (ea_cons (ev_at (j := 1) (ev_var rfl) (st_of (e03 _ _ hst)) rfl) ea_nil) (by show 1 ≤ 100000; decide)) hsm.1 (Nat.le_trans hsm.2 (by decide)))) (by rw [List.length_map]; omega) fun H6 e6 => nxt (((e.trans e35).trans e6).mut nD) nD ?_
        rw [upd_same, lnS]
        simp
      | keep cs ib =>
        obtain ⟨a, iv, rfl, sa, di⟩ := hit
        replace ht : H' t = some (.tup (.str "keep" :: _)) := ht
        have hcnt := hcs
        rw [cnt] at hcnt
        rw [okS] at hoks
        refine s_if (b := false) (ev_word rfl ht (by decide +kernel)) (fun h => (nomatch h)) fun _ H3 e3 => ?_
        refine s_if (b := false) (ev_word rfl (e3 _ _ ht) (by decide +kernel)) (fun h => (nomatch h)) fun _ H4 e4 => ?_
        have e34 := e3.trans e4
        refine s_if (b := false) (ev_word rfl (e34 _ _ ht) (by decide +kernel)) (fun h => (nomatch h)) fun _ H5 e5 => ?_
        have e35 := e34.trans e5
        refine s_if (b := true) (ev_word rfl (e35 _ _ ht) (by decide +kernel)) (fun _ H6 e6 => ?_) (fun h => (nomatch h))
        have e36 := e35.trans e6
        have e03 := e0'.trans e36
        refine q_app (e36 _ _ hD) (ev_var rfl) (head (ns := cs.map (Nat.cast : Nat → Int)) rfl rfl (ev_itemsV (ev_at (j := 1) (ev_var rfl) (st_of (e03 _ _ hst)) rfl) (e03 _ _ sa) hsm.1 (Nat.le_trans hsm.2 (by decide)))) (by rw [List.length_map]; omega) fun H7 e7 => ?_
        have eH7 := ((e.trans e36).trans e7).mut (o := .lst ((lnL (b.take i) lv).map V.str ++ [V.str (ind lv ++ hdT (.keep cs ib))])) nD
        have h7 : (upd H7 D (.lst ((lnL (b.take i) lv).map V.str ++ [V.str (ind lv ++ hdT (.keep cs ib))]))) D = _ := upd_same
        generalize upd H7 D (.lst ((lnL (b.take i) lv).map V.str ++ [V.str (ind lv ++ hdT (.keep cs ib))])) = H8 at eH7 h7 ⊢
        have e08 := e0.trans eH7
        refine s_asgL (el_catN (ev_var rfl) h7 (inner e08 (ev_at (j := 2) (ev_var rfl) (st_of (e08 _ _ hst)) rfl) di hoks.2.2.2 hoks.1 (by omega)) ?_) fun D' H9 nD' e9 h9 => nxt (eH7.trans e9) (fresh_back eH7 nD') ?_
        · have := lnL_len ib (lv + 1)
          rw [List.length_append, List.length_map, List.length_map, List.length_singleton]; omega
        · rw [h9, lnS]
          simp
      | again ib =>
        obtain ⟨iv, rfl, di⟩ := hit
        replace ht : H' t = some (.tup (.str "again" :: _)) := ht
        have hcnt := hcs
        rw [cnt] at hcnt
        rw [okS] at hoks
        refine s_if (b := false) (ev_word rfl ht (by decide +kernel)) (fun h => (nomatch h)) fun _ H3 e3 => ?_
        refine s_if (b := false) (ev_word rfl (e3 _ _ ht) (by decide +kernel)) (fun h => (nomatch h)) fun _ H4 e4 => ?_
        have e34 := e3.trans e4
        refine s_if (b := false) (ev_word rfl (e34 _ _ ht) (by decide +kernel)) (fun h => (nomatch h)) fun _ H5 e5 => ?_
        have e35 := e34.trans e5
        refine s_if (b := false) (ev_word rfl (e35 _ _ ht) (by decide +kernel)) (fun h => (nomatch h)) fun _ H6 e6 => ?_
        have e36 := e35.trans e6
        refine s_if (b := true) (ev_word rfl (e36 _ _ ht) (by decide +kernel)) (fun _ H7 e7 => ?_) (fun h => (nomatch h))
        have e37 := e36.trans e7
        have e03 := e0'.trans e37
        refine s_asgL (el_cat2 (el_catN (ev_var rfl) (e37 _ _ hD) (el_lst (ea_cons (line (by decide +kernel)) ea_nil) (by show 1 ≤ 100000; decide)) ?_) (inner e03 (ev_at (j := 1) (ev_var rfl) (st_of (e03 _ _ hst)) rfl) di hoks.2.2 hoks.1 (by omega)) ?_) fun D' H9 nD' e9 h9 => nxt ((e.trans e37).trans e9) (fresh_back (e.trans e37) nD') ?_
        · rw [List.length_map, List.length_singleton]; omega
        · have := lnL_len ib (lv + 1)
          rw [List.length_append, List.length_map, List.length_map, List.length_singleton]; omega
        · rw [h9, lnS, hdT, hdW, hdN, itsT, cat_empty]
          simp
      | either ia ib =>
        obtain ⟨va, vb, rfl, da, db⟩ := hit
        replace ht : H' t = some (.tup (.str "either" :: _)) := ht
        have hcnt := hcs
        rw [cnt] at hcnt
        rw [okS] at hoks
        have la := lnL_len ia (lv + 1)
        have lb := lnL_len ib (lv + 1)
        refine s_if (b := false) (ev_word rfl ht (by decide +kernel)) (fun h => (nomatch h)) fun _ H3 e3 => ?_
        refine s_if (b := false) (ev_word rfl (e3 _ _ ht) (by decide +kernel)) (fun h => (nomatch h)) fun _ H4 e4 => ?_
        have e34 := e3.trans e4
        refine s_if (b := false) (ev_word rfl (e34 _ _ ht) (by decide +kernel)) (fun h => (nomatch h)) fun _ H5 e5 => ?_
        have e35 := e34.trans e5
        refine s_if (b := false) (ev_word rfl (e35 _ _ ht) (by decide +kernel)) (fun h => (nomatch h)) fun _ H6 e6 => ?_
        have e36 := e35.trans e6
        refine s_if (b := false) (ev_word rfl (e36 _ _ ht) (by decide +kernel)) (fun h => (nomatch h)) fun _ H7 e7 => ?_
        have e37 := e36.trans e7
        refine s_if (b := true) (ev_word rfl (e37 _ _ ht) (by decide +kernel)) (fun _ H8 e8 => ?_) (fun h => (nomatch h))
        have e38 := e37.trans e8
        have e03 := e0'.trans e38
        refine q_asgL (el_cat2 (el_catN (ev_var rfl) (e38 _ _ hD) (el_lst (ea_cons (line (by decide +kernel)) ea_nil) (by show 1 ≤ 100000; decide)) ?_) (inner e03 (ev_at (j := 1) (ev_var rfl) (st_of (e03 _ _ hst)) rfl) da hoks.2.2.1 hoks.1 (by omega)) ?_) fun D' H9 nD' e9 h9 => ?_
        · rw [List.length_map, List.length_singleton]; omega
        · rw [List.length_append, List.length_map, List.length_map, List.length_singleton]; omega
        have eH9 := (e.trans e38).trans e9
        have e09 := e0.trans eH9
        refine s_asgL (el_cat2 (el_catN (ev_var rfl) h9 (el_lst (ea_cons (line (by decide +kernel)) ea_nil) (by show 1 ≤ 100000; decide)) ?_) (inner2 e09 (ev_at (j := 2) (ev_var rfl) (st_of (e09 _ _ hst)) rfl) db hoks.2.2.2.2 hoks.1 (by omega)) ?_) fun D2 Ha nD2 ea ha => nxt (eH9.trans ea) (fresh_back eH9 nD2) ?_
        · rw [List.length_append, List.length_append, List.length_map, List.length_map, List.length_singleton, List.length_singleton]; omega
        · rw [List.length_append, List.length_append, List.length_append, List.length_map, List.length_map, List.length_map, List.length_singleton, List.length_singleton]; omega
        · rw [ha, lnS, hdT, hdW, hdN, itsT, cat_empty]
          simp
      | call p r ia ib =>
        obtain ⟨ra, Bl, va, vb, rfl, sa, sB, da, db⟩ := hit
        replace ht : H' t = some (.tup (.str "call" :: _)) := ht
        have hcnt := hcs
        rw [cnt] at hcnt
        rw [okS] at hoks
        have la := lnL_len ia (lv + 1)
        have lb := lnL_len ib (lv + 1)
        refine s_if (b := false) (ev_word rfl ht (by decide +kernel)) (fun h => (nomatch h)) fun _ H3 e3 => ?_
        refine s_if (b := false) (ev_word rfl (e3 _ _ ht) (by decide +kernel)) (fun h => (nomatch h)) fun _ H4 e4 => ?_
        have e34 := e3.trans e4
        refine s_if (b := false) (ev_word rfl (e34 _ _ ht) (by decide +kernel)) (fun h => (nomatch h)) fun _ H5 e5 => ?_
        have e35 := e34.trans e5
        refine s_if (b := false) (ev_word rfl (e35 _ _ ht) (by decide +kernel)) (fun h => (nomatch h)) fun _ H6 e6 => ?_
        have e36 := e35.trans e6
        refine s_if (b := false) (ev_word rfl (e36 _ _ ht) (by decide +kernel)) (fun h => (nomatch h)) fun _ H7 e7 => ?_
        have e37 := e36.trans e7
        refine s_if (b := false) (ev_word rfl (e37 _ _ ht) (by decide +kernel)) (fun h => (nomatch h)) fun _ H8 e8 => ?_
        have e38 := e37.trans e8
        have e03 := e0'.trans e38
        refine q_app (e38 _ _ hD) (ev_var rfl) (head (ns := (p : Int) :: r) rfl rfl (ev_itemsN (ns := (p : Int) :: r) (el_catM (el_lst (ea_cons (ev_at (j := 1) (ev_var rfl) (st_of (e03 _ _ hst)) rfl) ea_nil) (by show 1 ≤ 100000; decide)) (ev_at (j := 2) (ev_var rfl) (st_of (e03 _ _ hst)) rfl) (e03 _ _ sa) ?_) hsm.1 (Nat.le_trans hsm.2 (by decide)))) (by rw [List.length_map]; omega) fun H9 e9 => ?_
        · rw [List.length_map, List.length_singleton]
          have : r.length + 1 ≤ 6 := hsm.2
          omega
        have eHa := ((e.trans e38).trans e9).mut (o := .lst ((lnL (b.take i) lv).map V.str ++ [V.str (ind lv ++ hdT (.call p r ia ib))])) nD
        have ha : (upd H9 D (.lst ((lnL (b.take i) lv).map V.str ++ [V.str (ind lv ++ hdT (.call p r ia ib))]))) D = _ := upd_same
        generalize upd H9 D (.lst ((lnL (b.take i) lv).map V.str ++ [V.str (ind lv ++ hdT (.call p r ia ib))])) = Ha at eHa ha ⊢
        have e0a := e0.trans eHa
        refine q_asgL (el_cat2 (el_catN (ev_var rfl) ha (el_lst (ea_cons (line (by decide +kernel)) ea_nil) (by show 1 ≤ 100000; decide)) ?_) (inner e0a (ev_op (ev_at (j := 3) (ev_var rfl) (st_of (e0a _ _ hst)) rfl) ev_c (rv_ixL (sq_of (e0a _ _ sB)) (atI_nat (j := 0) rfl))) da hoks.2.2.2.2.1 hoks.1 (by omega)) ?_) fun D' Hb nD' eb hb => ?_
        · rw [List.length_append, List.length_map, List.length_singleton, List.length_singleton]; omega
        · rw [List.length_append, List.length_append, List.length_map, List.length_map, List.length_singleton, List.length_singleton]; omega
        have eHb := eHa.trans eb
        have e0b := e0.trans eHb
        refine s_asgL (el_cat2 (el_catN (ev_var rfl) hb (el_lst (ea_cons (line (by decide +kernel)) ea_nil) (by show 1 ≤ 100000; decide)) ?_) (inner2 e0b (ev_op (ev_at (j := 3) (ev_var rfl) (st_of (e0b _ _ hst)) rfl) ev_c (rv_ixL (sq_of (e0b _ _ sB)) (atI_nat (j := 1) rfl))) db hoks.2.2.2.2.2.2 hoks.1 (by omega)) ?_) fun D2 Hc nD2 ec hc => nxt (eHb.trans ec) (fresh_back eHb nD2) ?_
        · simp only [List.length_append, List.length_map, List.length_singleton]; omega
        · simp only [List.length_append, List.length_map, List.length_singleton]; omega
        · rw [hc, lnS]
          simp
    · obtain ⟨D, x3, rfl, e, nD, hD⟩ := hP
      rw [List.take_of_length_le (by omega)] at hD
      exact s_ret (ev_var rfl) fun H3 e3 => q D H3 nD (e.trans e3) (e3 _ _ hD)
theorem ok_llines {f : Addr} {fd : FuncData} {kk : Nat} (F : Fun K "_law_lines" "_law_lines" s_law_lines f fd) (g : mg "_law_lines" = some (.ref f)) (b : Binds K fd ["block", "spaces"] []) (C_law_items : Cal P w K mg base 1 "_law_items" (spItems K) []) (hk : 1 ≤ kk) : ∀ n, FnOk P w K mg base CX0 (kk + n) f fd ["block", "spaces"] (spLLin K n)
  | 0 => ⟨fun _ _ _ _ ⟨_, _, _, _, _, _, _, _, h, h2, _⟩ => by omega, fun _ _ _ _ _ _ _ _ _ _ _ _ _ ⟨_, _, _, _, _, _, _, _, h, h2, _⟩ => by omega⟩
  | n + 1 => llin_step F C_law_items ⟨f, fd, _, [], ok_llines F g b C_law_items hk n, g, F.kp, b, .nil⟩ hk
end
/-! ### the written dict of the dividers -/
section
variable {w : World} {K : PySem.W.Frag}
theorem sqT_k {u : Addr} {od : Option Addr} {n : Nat} {sl : Array (Option Value)} {its : Array Value} {xs : List V} (h : K.lookup u = some ⟨.type "tuple", od, .seq its n, sl⟩) (hz : its.size ≤ 100) (hv : Vals xs its.toList) (H : Hp) : SqT K H u xs := .inr ⟨_, its, n, h, rfl, rfl, Nat.le_trans hz (by decide), hv⟩
theorem sqT_k1 {u : Addr} {od : Option Addr} {n : Nat} {sl : Array (Option Value)} {a : Str} {t : Tok} (h : K.lookup u = some ⟨.type "tuple", od, .seq #[.str a t] n, sl⟩) (H : Hp) : SqT K H u [.str a] := sqT_k h (by show 1 ≤ 100; decide) (.cons (show RelV (.str a) (.str a t) from ⟨t, rfl⟩) .nil) H
theorem sqT_k2 {u : Addr} {od : Option Addr} {n : Nat} {sl : Array (Option Value)} {a b : Str} {t t' : Tok} (h : K.lookup u = some ⟨.type "tuple", od, .seq #[.str a t, .str b t'] n, sl⟩) (H : Hp) : SqT K H u [.str a, .str b] := sqT_k h (by show 2 ≤ 100; decide) (.cons (show RelV (.str a) (.str a t) from ⟨t, rfl⟩) (.cons (show RelV (.str b) (.str b t') from ⟨t', rfl⟩) .nil)) H
theorem divs_of {a u0 u1 u2 u3 : Addr} {es : Array DictEntry} {n : Nat} (d : KDict K w a es n) (h0 : PySem.W.nsIn K a "set" = some none) (h1 : PySem.W.nsIn K a "carry" = some none) (h2 : PySem.W.nsIn K a "end" = some none)
    (k0 : PySem.W.nsIn K a "keep" = some (some (.ref u0))) (k1 : PySem.W.nsIn K a "again" = some (some (.ref u1))) (k2 : PySem.W.nsIn K a "either" = some (some (.ref u2))) (k3 : PySem.W.nsIn K a "call" = some (some (.ref u3)))
    (q0 : ∀ H, SqT K H u0 [.str ""]) (q1 : ∀ H, SqT K H u1 [.str ""]) (q2 : ∀ H, SqT K H u2 [.str "", .str "or"]) (q3 : ∀ H, SqT K H u3 [.str "way 0", .str "way 1"]) : Divs K w a es n := by
  refine ⟨d, fun s => ?_⟩
  have no : ∀ {s : Stm}, dvs s = [] → PySem.W.nsIn K a (hdW s) = some none → ∃ r : Option Value, PySem.W.nsIn K a (hdW s) = some r ∧ (∀ u, r = some u → ∃ t, u = .ref t ∧ ∀ H, SqT K H t ((dvs s).map V.str)) ∧ (r = none → dvs s = []) := fun e h => ⟨none, h, fun u z => (nomatch z), fun _ => e⟩
  have yes : ∀ {s : Stm} {u : Addr}, PySem.W.nsIn K a (hdW s) = some (some (.ref u)) → (∀ H, SqT K H u ((dvs s).map V.str)) → ∃ r : Option Value, PySem.W.nsIn K a (hdW s) = some r ∧ (∀ u, r = some u → ∃ t, u = .ref t ∧ ∀ H, SqT K H t ((dvs s).map V.str)) ∧ (r = none → dvs s = []) := fun h g => ⟨_, h, fun u z => ⟨_, (Option.some.inj z).symm, g⟩, fun z => (nomatch z)⟩
  cases s with
  | set _ _ => exact no rfl h0
  | carry _ => exact no rfl h1
  | fin _ => exact no rfl h2
  | keep _ _ => exact yes k0 q0
  | again _ => exact yes k1 q1
  | either _ _ => exact yes k2 q2
  | call _ _ _ _ => exact yes k3 q3
end
abbrev slaw : Stmt := topS 55
theorem sclaw : FnScope ["script", "pool", "cells", "many", "bodies", "lines", "procedure", "book", "due"] ["script"] (defScope slaw) := ⟨rfl, rfl, rfl, by decide +kernel, rfl, by decide +kernel, by decide +kernel⟩
open C8 (Mak pe_mk)
section
variable {P : Program} {w : World} {K : PySem.W.Frag} {mg : Str → Option Value} {base : Heap} {σ : L2.St} {H H' H0 : Hp}
def spLaw (K : PySem.W.Frag) : Sp := fun vs H Q _ => ∃ (a : Addr) (ns : List Int), vs = [.ref a] ∧ SqL K H a (ns.map V.int) ∧ ∀ H', Q (.bl true) H'
theorem okB_nil (c m : Nat) : okB c m [] := ⟨by rw [okL]; trivial, by show 0 ≤ 8; decide, by rw [cntL]; decide⟩
theorem dqa_set {N : Addr → Prop} : ∀ {xs : List V} {ds : List PyData} {i : Nat} {v : V} {d : PyData}, Dq N H v d → DqAll N H xs ds → DqAll N H (xs.set i v) (ds.set i d)
  | _, _, i, v, d, h, .nil => .nil
  | _, _, 0, v, d, h, .cons a b => .cons h b
  | _, _, i + 1, v, d, h, .cons a b => .cons a (dqa_set (i := i) h b)
theorem ok_law {C f : Addr} {fd : FuncData} {k : Nat} {ok : Str → Prop} (F : Fun K "law" "law" slaw f fd) (o7 : okWords ok) (z_range : mg "range" = none) (z_str : mg "str" = none)
    (C_law_pool : Cal P w K mg base 1 "_law_pool" (spPool K) []) (C_law_draw : Cal P w K mg base 1 "_law_draw" spDraw []) (C_law_bodies : Cal P w K mg base 13 "_law_bodies" spBodies []) (C_law_lines : Cal P w K mg base 6 "_law_lines" (spLLin K 5) [])
    (C_law_same : Cal P w K mg base 15 "_law_same" (spSame K 15) []) (CBook : Mak P w K mg base 16 "Book" C (spInit K ok C 15) []) (Cbook_text : Cal P w K mg base 17 "book_text" (spText K C) []) (hk : 17 ≤ k) :
    FnOk P w K mg base CX0 (k + 1) f fd ["script"] (spLaw K) := by
  have sc := sclaw
  refine F.ok sc (fun vs H Q E h => ?_) (fun cdv A outer s H vs Q E hr h => ?_)
  · obtain ⟨a, ns, rfl, _⟩ := h
    rfl
  · obtain ⟨a, ns, rfl, hS, q⟩ := h
    refine ⟨_, (pss_cons (ps_set (i := 1) sc.nd rfl (by first | exact Or.inl rfl | exact Or.inr rfl) (pe_c C_law_pool hr (by omega) (by rfl) (pa_cons (pv 0) pa_nil)))
      (pss_cons (ps_set (i := 2) sc.nd rfl (by first | exact Or.inl rfl | exact Or.inr rfl) (pe_op op_add pe_int (pe_c C_law_draw hr (by omega) (by rfl) (pa_cons (pv 1) (pa_cons pe_int pa_nil)))))
      (pss_cons (ps_set (i := 3) sc.nd rfl (by first | exact Or.inl rfl | exact Or.inr rfl) (pe_op op_add pe_int (pe_c C_law_draw hr (by omega) (by rfl) (pa_cons (pv 1) (pa_cons pe_int pa_nil)))))
      (pss_cons (ps_set (i := 4) sc.nd rfl (by first | exact Or.inl rfl | exact Or.inr rfl) (pe_c C_law_bodies hr (by omega) (by rfl) (pa_cons (pv 1) (pa_cons (pv 2) (pa_cons (pv 3) (pa_cons pe_int pa_nil))))))
      (Evl.pss_cut (ps_if (pt_cmpR op_eq (pe_c C_law_draw hr (by omega) (by rfl) (pa_cons (pv 1) (pa_cons pe_int pa_nil))) pe_int (nomark _))
      (pss_one (ps_asg (pe_lst pa_nil) (pg_sub (pv 4) (pe_c C_law_draw hr (by omega) (by rfl) (pa_cons (pv 1) (pa_cons (pv 3) pa_nil))) set_list)))
      pss_nil)
      (pss_cons (ps_set (i := 5) sc.nd rfl (by first | exact Or.inl rfl | exact Or.inr rfl) (pe_lst (pa_cons (pe_op op_add_str pe_str (pe_callTy call_str_int (by rfl) z_str (by decide +kernel) (pa_cons (pv 2) pa_nil))) pa_nil)))
      (pss_cons (ps_for PassesOwn.never rfl (pi_range1 (by rfl) z_range (pa_cons (pv 3) pa_nil)) (pg_name (i := 6) sc.nd rfl (by first | exact Or.inl rfl | exact Or.inr rfl))
      (pss_cons (ps_expr (pe_bm PySem.F.plainAttrs_list PySem.F.slot_list_append PySem.F.type_list_append mt_append (pv 5) (pa_cons (pe_op op_add_str pe_str (pe_callTy call_str_int (by rfl) z_str (by decide +kernel) (pa_cons (pv 6) pa_nil))) pa_nil)))
      (pss_one (ps_set (i := 5) sc.nd rfl (by first | exact Or.inl rfl | exact Or.inr rfl) (pe_op op_cat (pv 5) (pe_c C_law_lines hr (by omega) (by rfl) (pa_cons (pe_ix ix_list (pv 4) (pv 6) (fun _ _ => rfl)) (pa_cons pe_str pa_nil))))))))
      (pss_cons (ps_set (i := 7) sc.nd rfl (by first | exact Or.inl rfl | exact Or.inr rfl) (pe_mk CBook hr (by omega) (by rfl) (pa_cons (pv 2) (pa_cons (pv 4) pa_nil))))
      (pss_cons (ps_set (i := 8) sc.nd rfl (by first | exact Or.inl rfl | exact Or.inr rfl) (pe_join pe_str (pv 5)))
      (pss_one (ps_ret (pe_and (pe_c C_law_same hr (by omega) (by rfl) (pa_cons (pe_c Cbook_text hr (by omega) (by rfl) (pa_cons (pv 7) pa_nil)) (pa_cons (pv 8) pa_nil))) (pe_one (pe_c C_law_same hr (by omega) (by rfl) (pa_cons (pe_c Cbook_text hr (by omega) (by rfl) (pa_cons (pv 7) pa_nil)) (pa_cons (pv 8) pa_nil)))))))))))))))), ?_⟩
    -- the draws
    refine q_run ?_
    refine ⟨.ref a, rfl, a, ns, rfl, hS, fun p q0 H1 np nq e1 x1 => ?_⟩
    refine q_run ?_
    refine ⟨.ref p, rfl, p, q0, 3, rfl, by decide, by decide, x1, fun r H2 r0 r3 o2 x2 => ?_⟩
    obtain ⟨c, hc⟩ : ∃ n : Nat, 1 + r = (n : Int) := ⟨(1 + r).toNat, by omega⟩
    refine ⟨1, r, rfl, rfl, ?_⟩
    show tSeq _ _ _ (List.set _ 2 (some (V.int (1 + r)))) _
    rw [hc]
    refine q_run ?_
    refine ⟨.ref p, rfl, p, q0, 3, rfl, by decide, by decide, x2, fun r' H3 r0' r3' o3 x3 => ?_⟩
    obtain ⟨m, hm⟩ : ∃ n : Nat, 1 + r' = (n : Int) := ⟨(1 + r').toNat, by omega⟩
    refine ⟨1, r', rfl, rfl, ?_⟩
    show tSeq _ _ _ (List.set _ 3 (some (V.int (1 + r')))) _
    rw [hm]
    have c1 : 1 ≤ c := by omega
    have c3 : c ≤ 3 := by omega
    have m1 : 1 ≤ m := by omega
    have m3 : m ≤ 3 := by omega
    refine q_run ?_
    refine ⟨.ref p, rfl, .int (c : Int), rfl, .int (m : Int), rfl, p, q0, c, m, rfl, c1, c3, m1, m3, x3, fun bs0 B xs0 H4 hl0 hok0 o4 x4 nB hB0 dq0 => ?_⟩
    have nBp : B ≠ p := new_ne nB x3.isP
    have nBq : B ≠ q0 := new_ne nB x3.isQ
    -- perhaps one is without statements
    refine ⟨fun σ' H' => ∃ (bs : List (List Stm)) (xs : List V), σ' = [some (.ref a), some (.ref p), some (.int (c : Int)), some (.int (m : Int)), some (.ref B), none, none, none, none] ∧ bs.length = m ∧ (∀ b ∈ bs, okB c m b) ∧ Pool H' p q0 ∧ H' B = some (.lst xs) ∧ DqAll (fun a => a ≠ p ∧ a ≠ B) H' xs (bs.map bD), ?_, ?_⟩
    · refine ⟨.ref p, rfl, p, q0, 4, rfl, by decide, by decide, x4, fun r5 H5 _ _ o5 x5 => ?_⟩
      have hB5 := o5 _ _ nBp hB0
      have dq5 : DqAll (fun a => a ≠ p ∧ a ≠ B) H5 xs0 (bs0.map bD) := dqa_to (fun a n => ⟨new_ne n.1 x3.isP, n.2⟩) (fun a o n ha => o5 _ _ (new_ne n.1 x3.isP) ha) _ _ dq0
      refine ⟨rfl, _, rfl, ite2 (fun _ => ?_) (fun _ => ?_)⟩
      · refine ⟨by decide, fun L nL => ?_⟩
        have eL := Ex.new (o := .lst []) nL
        refine ⟨.ref B, rfl, .ref p, rfl, .int (m : Int), rfl, p, q0, (m : Int), rfl, by omega, by rw [Int.natAbs_natCast]; exact Nat.lt_of_le_of_lt m3 (by decide), x5.ex eL, fun r6 H6 r60 r6m o6 x6 => ?_⟩
        have hl6 : xs0.length = m := by rw [dqa_len dq5, List.length_map, hl0]
        have LB : L ≠ B := new_ne nL ⟨_, hB5⟩
        have Lp : L ≠ p := new_ne nL x5.isP
        have hB6 := o6 _ _ nBp (eL _ _ hB5)
        have hr6 : r6.toNat < xs0.length := by omega
        refine ⟨B, xs0, r6, r6.toNat, rfl, rfl, hB6, ?_, ?_⟩
        · unfold ixN
          rw [if_pos r60, if_pos (by omega)]
        · refine ⟨bs0.set r6.toNat [], xs0.set r6.toNat (.ref L), rfl, by rw [List.length_set]; exact hl0, fun b hb => ?_, x6.upd nBp nBq, upd_same, ?_⟩
          · rcases List.mem_or_eq_of_mem_set hb with hb | rfl
            · exact hok0 b hb
            · exact okB_nil c m
          · rw [List.map_set]
            refine dqa_set ?_ (dqa_to (fun _ h => h) (fun a o n ha => by rw [upd_ne n.2]; exact o6 _ _ n.1 (eL _ _ ha)) _ _ dq5)
            rw [bD, toDs]
            refine .lst ⟨Lp, LB⟩ ?_ .nil
            rw [upd_ne LB]
            exact o6 _ _ Lp upd_same
      · exact ⟨bs0, xs0, rfl, hl0, hok0, x5, hB5, dq5⟩
    · rintro σ' H5 ⟨bs, xs, rfl, hl, hok, x5, hB5, dq5⟩
      have hfB : fit (toB bs) 14 = true := toB_fit c3 (by omega) hok
      have dB5 : Dp K H5 (.ref B) (toB bs) := .lst (sq_of hB5) (dqa_dpa _ _ dq5)
      -- the lines
      have hcs : smI (c : Int) := ⟨by omega, by omega⟩
      have w6 : (Str.ofString "cells ").length = 6 := by decide +kernel
      have w3 : (Str.ofString "to ").length = 3 := by decide +kernel
      refine q_asgL (xs := [.str (Str.ofString "cells " ++ numT (c : Int))]) (el_lst (ea_cons (ev_op ev_c (ev_strI (ev_var rfl) hcs) (rv_cat (by have := numT_len hcs; rw [w6]; omega))) ea_nil) (by show 1 ≤ 100000; decide)) fun L0 H6 nL0 e6 hL0 => ?_
      have lxs : xs.length = bs.length := by rw [dqa_len dq5, List.length_map]
      refine q_forR1 (n := (m : Int)) (ea_cons (ev_var rfl) ea_nil) ⟨by omega, by omega⟩
        (fun i σ' H' => ∃ (L : Addr) (x6 : Option V), σ' = [some (.ref a), some (.ref p), some (.int (c : Int)), some (.int (m : Int)), some (.ref B), some (.ref L), x6, none, none] ∧ Ex H5 H' ∧ H5 L = none ∧ H' L = some (.lst (((Str.ofString "cells " ++ numT (c : Int)) :: bkl 0 (bs.take i)).map V.str)))
        (fun H7 e7 => ⟨L0, none, rfl, e6.trans e7, nL0, by rw [List.take_zero, bkl]; exact e7 _ _ hL0⟩) (fun i σ' H' hi hP => ?_) (fun σ' H' hP => ?_)
      · obtain ⟨L, x6, rfl, e, nL, hL⟩ := hP
        have hib : i < bs.length := by omega
        have hget : bs[i]? = some bs[i] := List.getElem?_eq_getElem hib
        have hmem := List.getElem_mem hib
        generalize bs[i] = b at hget hmem
        have hokb := hok b hmem
        have hi2 : i < xs.length := by omega
        obtain ⟨d, hd', dy⟩ := dqa_at dq5 (List.getElem?_eq_getElem hi2)
        rw [List.getElem?_map, hget] at hd'
        obtain rfl := Option.some.inj hd'
        have hgx : xs[i]? = some xs[i] := List.getElem?_eq_getElem hi2
        generalize xs[i] = y at hgx dy
        have his : smI (i : Int) := ⟨by omega, by omega⟩
        have hb1 := bkl_len (bs.take i) 0 12 fun b hb => (hok b (List.mem_of_mem_take hb)).2.2
        have hb2 : (bs.take i).length ≤ 3 := by rw [List.length_take]; omega
        have hb3 : (1 + 3 * 12) * (bs.take i).length ≤ (1 + 3 * 12) * 3 := Nat.mul_le_mul_left _ hb2
        have hb4 := lnL_len b 0
        have hb5 := hokb.2.2
        dsimp only
        refine q_app (v := .str (Str.ofString "to " ++ numT (i : Int))) hL (ev_var rfl) (ev_op ev_c (ev_strI (ev_var rfl) his) (rv_cat (by have := numT_len his; rw [w3]; omega))) (by rw [List.length_map, List.length_cons]; omega) fun H7 e7 => ?_
        have eH := (e.trans e7).mut (o := .lst (((Str.ofString "cells " ++ numT (c : Int)) :: bkl 0 (bs.take i)).map V.str ++ [V.str (Str.ofString "to " ++ numT (i : Int))])) nL
        have hL8 : (upd H7 L (.lst (((Str.ofString "cells " ++ numT (c : Int)) :: bkl 0 (bs.take i)).map V.str ++ [V.str (Str.ofString "to " ++ numT (i : Int))]))) L = _ := upd_same
        generalize upd H7 L (.lst (((Str.ofString "cells " ++ numT (c : Int)) :: bkl 0 (bs.take i)).map V.str ++ [V.str (Str.ofString "to " ++ numT (i : Int))])) = H8 at eH hL8 ⊢
        refine s_asgL (el_catN (ev_var rfl) hL8 (ys := (lnL b 0).map V.str) (el_call (vs := [y, .str (ind 0)]) (ea_cons (ev_op (ev_var rfl) (ev_var rfl) (rv_ixL (sq_of (eH _ _ hB5)) (atI_nat hgx))) (ea_cons (ev_is ev_c (congrArg V.str ind_zero.symm)) ea_nil)) fun H9 e9 Q q _ => ⟨y, b, c, m, 0, _, H5, rfl, by omega, by omega, eH.trans e9, dy, hokb.1, c3, m3, by omega, q⟩) ?_) fun L' H9 nL' e9 hL' => ⟨L', _, rfl, eH.trans e9, fresh_back eH nL', ?_⟩
        · rw [List.length_append, List.length_map, List.length_cons, List.length_singleton, List.length_map]; omega
        · rw [hL', List.take_add_one, hget, Option.toList_some, bkl_app]
          have : (bs.take i).length = i := by rw [List.length_take]; omega
          rw [this]
          simp [bkl]
      · obtain ⟨L, x6, rfl, e, nL, hL⟩ := hP
        rw [List.take_of_length_le (by omega)] at hL
        have dB6 := dp_ex e _ _ dB5
        -- the book
        refine q_run ?_
        refine ⟨.int (c : Int), rfl, .ref B, rfl, ?_⟩
        intro X dx hX hdx ne
        have hX1 : (upd H' dx (.own X)) X = none := by rw [upd_ne ne.symm]; exact hX
        refine ⟨X, dx, .ref B, bs.map bD, c, 14, H', rfl, upd_same, hX, (Ex.new hdx).trans (Ex.new hX1), dB6, hfB, rfl, c1, c3, toB_ok o7 hl m1 m3 hok, fun H7 e7 isb => ⟨rfl, ?_⟩⟩
        obtain ⟨dxx, vb, hX7, dqb⟩ := isb
        dsimp only
        have hj : (Str.ofString "\n").length ≤ 1 := by decide +kernel
        refine q_asg (ev_joinV (ys := (Str.ofString "cells " ++ numT (c : Int)) :: bkl 0 bs) ev_c (ev_var rfl) (sq_of (e7 _ _ hL)) (btx_fits c3 m3 (by omega) hok _ hj)) fun H8 e8 => ?_
        have text : ∀ {H9 : Hp} {E : XK}, Ex H8 H9 → EvP (tCall (spText K C) [] E (tCons (tVar 7) tNil)) [some (.ref a), some (.ref p), some (.int (c : Int)), some (.int (m : Int)), some (.ref B), some (.ref L), x6, some (.ref X), some (.str (btx c bs))] H9 (DP K (.str (btx c bs))) := fun {H9 E} e9 =>
          ep_ev (ev_call (ea_cons (ev_var rfl) ea_nil) fun Ha ea Q q _ => ⟨X, c, m, vb, bs, rfl, ⟨dxx, ((e8.trans e9).trans ea) _ _ hX7⟩, dp_ex ((e8.trans e9).trans ea) _ _ (dq_dp _ _ dqb), hfB, c3, m3, by omega, hok, q⟩) fun _ _ => .str _
        exact s_ret (ev_is (ev_andV (ev_same (n := 14) (text (Ex.refl _)) (ep_ev (ev_var rfl) fun _ _ => .str _) rfl) fun _ => ev_same (n := 14) (text (Ex.refl _)) (ep_ev (ev_var rfl) fun _ _ => .str _) rfl) rfl) fun H9 _ => q H9
end
/-! ### what the top has written; the end -/
theorem all_mk {l : PySem.W.OpenLaw} {w : World} {K : PySem.W.Frag} {h : Heap} {mg : Str → Option Value} {fa : Addr} (X : K.In h) (G : h.Ns mainGlobals mg) (hfa : mg "law" = some (.ref fa))
    {odis_integer anis_integer : Option Addr} {slis_integer : Array (Option Value)} {ocis_integer kVis_integer dcis_integer pmis_integer cdis_integer ctis_integer : Value} {fis_integer : Addr} {odis_between anis_between : Option Addr} {slis_between : Array (Option Value)} {ocis_between kVis_between dcis_between pmis_between cdis_between ctis_between : Value} {fis_between : Addr} {odis_bit anis_bit : Option Addr} {slis_bit : Array (Option Value)} {ocis_bit kVis_bit dcis_bit pmis_bit cdis_bit ctis_bit : Value} {fis_bit : Addr} {odis_index anis_index : Option Addr} {slis_index : Array (Option Value)} {ocis_index kVis_index dcis_index pmis_index cdis_index ctis_index : Value} {fis_index : Addr} {odis_cell_list anis_cell_list : Option Addr} {slis_cell_list : Array (Option Value)} {ocis_cell_list kVis_cell_list dcis_cell_list pmis_cell_list cdis_cell_list ctis_cell_list : Value} {fis_cell_list : Addr} {odcopied ancopied : Option Addr} {slcopied : Array (Option Value)} {occopied kVcopied dccopied pmcopied cdcopied ctcopied : Value} {fcopied : Addr} {odis_row anis_row : Option Addr} {slis_row : Array (Option Value)} {ocis_row kVis_row dcis_row pmis_row cdis_row ctis_row : Value} {fis_row : Addr} {odis_block_pair anis_block_pair : Option Addr} {slis_block_pair : Array (Option Value)} {ocis_block_pair kVis_block_pair dcis_block_pair pmis_block_pair cdis_block_pair ctis_block_pair : Value} {fis_block_pair : Addr} {odis_sized anis_sized : Option Addr} {slis_sized : Array (Option Value)} {ocis_sized kVis_sized dcis_sized pmis_sized cdis_sized ctis_sized : Value} {fis_sized : Addr} {odis_statement anis_statement : Option Addr} {slis_statement : Array (Option Value)} {ocis_statement kVis_statement dcis_statement pmis_statement cdis_statement ctis_statement : Value} {fis_statement : Addr} {odblocks_of anblocks_of : Option Addr} {slblocks_of : Array (Option Value)} {ocblocks_of kVblocks_of dcblocks_of pmblocks_of cdblocks_of ctblocks_of : Value} {fblocks_of : Addr} {odplaces anplaces : Option Addr} {slplaces : Array (Option Value)} {ocplaces kVplaces dcplaces pmplaces cdplaces ctplaces : Value} {fplaces : Addr} {odentries anentries : Option Addr} {slentries : Array (Option Value)} {ocentries kVentries dcentries pmentries cdentries ctentries : Value} {fentries : Addr} {odfits anfits : Option Addr} {slfits : Array (Option Value)} {ocfits kVfits dcfits pmfits cdfits ctfits : Value} {ffits : Addr} {odfirst_fault anfirst_fault : Option Addr} {slfirst_fault : Array (Option Value)} {ocfirst_fault kVfirst_fault dcfirst_fault pmfirst_fault cdfirst_fault ctfirst_fault : Value} {ffirst_fault : Addr} {odcheck_bodies ancheck_bodies : Option Addr} {slcheck_bodies : Array (Option Value)} {occheck_bodies kVcheck_bodies dccheck_bodies pmcheck_bodies cdcheck_bodies ctcheck_bodies : Value} {fcheck_bodies : Addr} {odstatement_at anstatement_at : Option Addr} {slstatement_at : Array (Option Value)} {ocstatement_at kVstatement_at dcstatement_at pmstatement_at cdstatement_at ctstatement_at : Value} {fstatement_at : Addr} {CBook : Addr} {tLIST_LIMIT : Tok} {tPROCEDURE_LIMIT : Tok} {tLAST_LEVEL : Tok} {tROW_LIMIT : Tok} {tMOST_CELLS : Tok} {tMOST_PROCEDURES : Tok} {a_SIZES : Addr} {esSIZES : Array DictEntry} {nSIZES : Nat} {tSIZES0 tSIZES1 tSIZES2 tSIZES3 tSIZES4 tSIZES5 tSIZES6 : Tok} {odBook___init__ anBook___init__ : Option Addr} {slBook___init__ : Array (Option Value)} {ocBook___init__ kVBook___init__ dcBook___init__ pmBook___init__ cdBook___init__ ctBook___init__ : Value} {fBook___init__ : Addr} {odBook_cells anBook_cells : Option Addr} {slBook_cells : Array (Option Value)} {ocBook_cells kVBook_cells dcBook_cells pmBook_cells cdBook_cells ctBook_cells : Value} {fBook_cells : Addr} {odBook_bodies anBook_bodies : Option Addr} {slBook_bodies : Array (Option Value)} {ocBook_bodies kVBook_bodies dcBook_bodies pmBook_bodies cdBook_bodies ctBook_bodies : Value} {fBook_bodies : Addr} {a_DIVIDERS : Addr} {esDIVIDERS : Array DictEntry} {nDIVIDERS : Nat} {u_DIVIDERS0 : Addr} {odDIVIDERS0 : Option Addr} {nDIVIDERS0 : Nat} {slDIVIDERS0 : Array (Option Value)} {tDIVIDERS0_0 : Tok} {u_DIVIDERS1 : Addr} {odDIVIDERS1 : Option Addr} {nDIVIDERS1 : Nat} {slDIVIDERS1 : Array (Option Value)} {tDIVIDERS1_0 : Tok} {u_DIVIDERS2 : Addr} {odDIVIDERS2 : Option Addr} {nDIVIDERS2 : Nat} {slDIVIDERS2 : Array (Option Value)} {tDIVIDERS2_0 tDIVIDERS2_1 : Tok} {u_DIVIDERS3 : Addr} {odDIVIDERS3 : Option Addr} {nDIVIDERS3 : Nat} {slDIVIDERS3 : Array (Option Value)} {tDIVIDERS3_0 tDIVIDERS3_1 : Tok} {odindent_of anindent_of : Option Addr} {slindent_of : Array (Option Value)} {ocindent_of kVindent_of dcindent_of pmindent_of cdindent_of ctindent_of : Value} {findent_of : Addr} {odhead_of anhead_of : Option Addr} {slhead_of : Array (Option Value)} {ochead_of kVhead_of dchead_of pmhead_of cdhead_of cthead_of : Value} {fhead_of : Addr} {odlines_of anlines_of : Option Addr} {sllines_of : Array (Option Value)} {oclines_of kVlines_of dclines_of pmlines_of cdlines_of ctlines_of : Value} {flines_of : Addr} {odbook_text anbook_text : Option Addr} {slbook_text : Array (Option Value)} {ocbook_text kVbook_text dcbook_text pmbook_text cdbook_text ctbook_text : Value} {fbook_text : Addr} {od_law_pool an_law_pool : Option Addr} {sl_law_pool : Array (Option Value)} {oc_law_pool kV_law_pool dc_law_pool pm_law_pool cd_law_pool ct_law_pool : Value} {f_law_pool : Addr} {od_law_draw an_law_draw : Option Addr} {sl_law_draw : Array (Option Value)} {oc_law_draw kV_law_draw dc_law_draw pm_law_draw cd_law_draw ct_law_draw : Value} {f_law_draw : Addr} {od_law_row an_law_row : Option Addr} {sl_law_row : Array (Option Value)} {oc_law_row kV_law_row dc_law_row pm_law_row cd_law_row ct_law_row : Value} {f_law_row : Addr} {od_law_command an_law_command : Option Addr} {sl_law_command : Array (Option Value)} {oc_law_command kV_law_command dc_law_command pm_law_command cd_law_command ct_law_command : Value} {f_law_command : Addr} {od_law_some_cells an_law_some_cells : Option Addr} {sl_law_some_cells : Array (Option Value)} {oc_law_some_cells kV_law_some_cells dc_law_some_cells pm_law_some_cells cd_law_some_cells ct_law_some_cells : Value} {f_law_some_cells : Addr} {od_law_block an_law_block : Option Addr} {sl_law_block : Array (Option Value)} {oc_law_block kV_law_block dc_law_block pm_law_block cd_law_block ct_law_block : Value} {f_law_block : Addr} {od_law_statement an_law_statement : Option Addr} {sl_law_statement : Array (Option Value)} {oc_law_statement kV_law_statement dc_law_statement pm_law_statement cd_law_statement ct_law_statement : Value} {f_law_statement : Addr} {od_law_body an_law_body : Option Addr} {sl_law_body : Array (Option Value)} {oc_law_body kV_law_body dc_law_body pm_law_body cd_law_body ct_law_body : Value} {f_law_body : Addr} {od_law_bodies an_law_bodies : Option Addr} {sl_law_bodies : Array (Option Value)} {oc_law_bodies kV_law_bodies dc_law_bodies pm_law_bodies cd_law_bodies ct_law_bodies : Value} {f_law_bodies : Addr} {od_law_same an_law_same : Option Addr} {sl_law_same : Array (Option Value)} {oc_law_same kV_law_same dc_law_same pm_law_same cd_law_same ct_law_same : Value} {f_law_same : Addr} {od_law_items an_law_items : Option Addr} {sl_law_items : Array (Option Value)} {oc_law_items kV_law_items dc_law_items pm_law_items cd_law_items ct_law_items : Value} {f_law_items : Addr} {od_law_lines an_law_lines : Option Addr} {sl_law_lines : Array (Option Value)} {oc_law_lines kV_law_lines dc_law_lines pm_law_lines cd_law_lines ct_law_lines : Value} {f_law_lines : Addr} {odlaw anlaw : Option Addr} {sllaw : Array (Option Value)} {oclaw kVlaw dclaw pmlaw cdlaw ctlaw : Value} {flaw : Addr}
    (ais_integer : PySem.W.nsIn K mainGlobals "is_integer" = some (some (.ref fis_integer)))
    (lis_integer : K.lookup fis_integer = some ⟨ocis_integer, odis_integer, .func (PySem.W.fnOf "is_integer" "is_integer" (defArgs sis_integer) (defBody sis_integer) (defScope sis_integer) .none kVis_integer dcis_integer pmis_integer anis_integer cdis_integer ctis_integer), slis_integer⟩)
    (cis_integer : PySem.W.codeIn K cdis_integer "is_integer" = true)
    (kis_integer : PySem.W.keepIn K (.ref fis_integer) = true)
    (ais_between : PySem.W.nsIn K mainGlobals "is_between" = some (some (.ref fis_between)))
    (lis_between : K.lookup fis_between = some ⟨ocis_between, odis_between, .func (PySem.W.fnOf "is_between" "is_between" (defArgs sis_between) (defBody sis_between) (defScope sis_between) .none kVis_between dcis_between pmis_between anis_between cdis_between ctis_between), slis_between⟩)
    (cis_between : PySem.W.codeIn K cdis_between "is_between" = true)
    (kis_between : PySem.W.keepIn K (.ref fis_between) = true)
    (ais_bit : PySem.W.nsIn K mainGlobals "is_bit" = some (some (.ref fis_bit)))
    (lis_bit : K.lookup fis_bit = some ⟨ocis_bit, odis_bit, .func (PySem.W.fnOf "is_bit" "is_bit" (defArgs sis_bit) (defBody sis_bit) (defScope sis_bit) .none kVis_bit dcis_bit pmis_bit anis_bit cdis_bit ctis_bit), slis_bit⟩)
    (cis_bit : PySem.W.codeIn K cdis_bit "is_bit" = true)
    (kis_bit : PySem.W.keepIn K (.ref fis_bit) = true)
    (ais_index : PySem.W.nsIn K mainGlobals "is_index" = some (some (.ref fis_index)))
    (lis_index : K.lookup fis_index = some ⟨ocis_index, odis_index, .func (PySem.W.fnOf "is_index" "is_index" (defArgs sis_index) (defBody sis_index) (defScope sis_index) .none kVis_index dcis_index pmis_index anis_index cdis_index ctis_index), slis_index⟩)
    (cis_index : PySem.W.codeIn K cdis_index "is_index" = true)
    (kis_index : PySem.W.keepIn K (.ref fis_index) = true)
    (ais_cell_list : PySem.W.nsIn K mainGlobals "is_cell_list" = some (some (.ref fis_cell_list)))
    (lis_cell_list : K.lookup fis_cell_list = some ⟨ocis_cell_list, odis_cell_list, .func (PySem.W.fnOf "is_cell_list" "is_cell_list" (defArgs sis_cell_list) (defBody sis_cell_list) (defScope sis_cell_list) .none kVis_cell_list dcis_cell_list pmis_cell_list anis_cell_list cdis_cell_list ctis_cell_list), slis_cell_list⟩)
    (cis_cell_list : PySem.W.codeIn K cdis_cell_list "is_cell_list" = true)
    (kis_cell_list : PySem.W.keepIn K (.ref fis_cell_list) = true)
    (acopied : PySem.W.nsIn K mainGlobals "copied" = some (some (.ref fcopied)))
    (lcopied : K.lookup fcopied = some ⟨occopied, odcopied, .func (PySem.W.fnOf "copied" "copied" (defArgs scopied) (defBody scopied) (defScope scopied) .none kVcopied dccopied pmcopied ancopied cdcopied ctcopied), slcopied⟩)
    (ccopied : PySem.W.codeIn K cdcopied "copied" = true)
    (kcopied : PySem.W.keepIn K (.ref fcopied) = true)
    (ais_row : PySem.W.nsIn K mainGlobals "is_row" = some (some (.ref fis_row)))
    (lis_row : K.lookup fis_row = some ⟨ocis_row, odis_row, .func (PySem.W.fnOf "is_row" "is_row" (defArgs sis_row) (defBody sis_row) (defScope sis_row) .none kVis_row dcis_row pmis_row anis_row cdis_row ctis_row), slis_row⟩)
    (cis_row : PySem.W.codeIn K cdis_row "is_row" = true)
    (kis_row : PySem.W.keepIn K (.ref fis_row) = true)
    (ais_block_pair : PySem.W.nsIn K mainGlobals "is_block_pair" = some (some (.ref fis_block_pair)))
    (lis_block_pair : K.lookup fis_block_pair = some ⟨ocis_block_pair, odis_block_pair, .func (PySem.W.fnOf "is_block_pair" "is_block_pair" (defArgs sis_block_pair) (defBody sis_block_pair) (defScope sis_block_pair) .none kVis_block_pair dcis_block_pair pmis_block_pair anis_block_pair cdis_block_pair ctis_block_pair), slis_block_pair⟩)
    (cis_block_pair : PySem.W.codeIn K cdis_block_pair "is_block_pair" = true)
    (kis_block_pair : PySem.W.keepIn K (.ref fis_block_pair) = true)
    (ais_sized : PySem.W.nsIn K mainGlobals "is_sized" = some (some (.ref fis_sized)))
    (lis_sized : K.lookup fis_sized = some ⟨ocis_sized, odis_sized, .func (PySem.W.fnOf "is_sized" "is_sized" (defArgs sis_sized) (defBody sis_sized) (defScope sis_sized) .none kVis_sized dcis_sized pmis_sized anis_sized cdis_sized ctis_sized), slis_sized⟩)
    (cis_sized : PySem.W.codeIn K cdis_sized "is_sized" = true)
    (kis_sized : PySem.W.keepIn K (.ref fis_sized) = true)
    (ais_statement : PySem.W.nsIn K mainGlobals "is_statement" = some (some (.ref fis_statement)))
    (lis_statement : K.lookup fis_statement = some ⟨ocis_statement, odis_statement, .func (PySem.W.fnOf "is_statement" "is_statement" (defArgs sis_statement) (defBody sis_statement) (defScope sis_statement) .none kVis_statement dcis_statement pmis_statement anis_statement cdis_statement ctis_statement), slis_statement⟩)
    (cis_statement : PySem.W.codeIn K cdis_statement "is_statement" = true)
    (kis_statement : PySem.W.keepIn K (.ref fis_statement) = true)
    (ablocks_of : PySem.W.nsIn K mainGlobals "blocks_of" = some (some (.ref fblocks_of)))
    (lblocks_of : K.lookup fblocks_of = some ⟨ocblocks_of, odblocks_of, .func (PySem.W.fnOf "blocks_of" "blocks_of" (defArgs sblocks_of) (defBody sblocks_of) (defScope sblocks_of) .none kVblocks_of dcblocks_of pmblocks_of anblocks_of cdblocks_of ctblocks_of), slblocks_of⟩)
    (cblocks_of : PySem.W.codeIn K cdblocks_of "blocks_of" = true)
    (kblocks_of : PySem.W.keepIn K (.ref fblocks_of) = true)
    (aplaces : PySem.W.nsIn K mainGlobals "places" = some (some (.ref fplaces)))
    (lplaces : K.lookup fplaces = some ⟨ocplaces, odplaces, .func (PySem.W.fnOf "places" "places" (defArgs splaces) (defBody splaces) (defScope splaces) .none kVplaces dcplaces pmplaces anplaces cdplaces ctplaces), slplaces⟩)
    (cplaces : PySem.W.codeIn K cdplaces "places" = true)
    (kplaces : PySem.W.keepIn K (.ref fplaces) = true)
    (aentries : PySem.W.nsIn K mainGlobals "entries" = some (some (.ref fentries)))
    (lentries : K.lookup fentries = some ⟨ocentries, odentries, .func (PySem.W.fnOf "entries" "entries" (defArgs sentries) (defBody sentries) (defScope sentries) .none kVentries dcentries pmentries anentries cdentries ctentries), slentries⟩)
    (centries : PySem.W.codeIn K cdentries "entries" = true)
    (kentries : PySem.W.keepIn K (.ref fentries) = true)
    (afits : PySem.W.nsIn K mainGlobals "fits" = some (some (.ref ffits)))
    (lfits : K.lookup ffits = some ⟨ocfits, odfits, .func (PySem.W.fnOf "fits" "fits" (defArgs sfits) (defBody sfits) (defScope sfits) .none kVfits dcfits pmfits anfits cdfits ctfits), slfits⟩)
    (cfits : PySem.W.codeIn K cdfits "fits" = true)
    (kfits : PySem.W.keepIn K (.ref ffits) = true)
    (afirst_fault : PySem.W.nsIn K mainGlobals "first_fault" = some (some (.ref ffirst_fault)))
    (lfirst_fault : K.lookup ffirst_fault = some ⟨ocfirst_fault, odfirst_fault, .func (PySem.W.fnOf "first_fault" "first_fault" (defArgs sfirst_fault) (defBody sfirst_fault) (defScope sfirst_fault) .none kVfirst_fault dcfirst_fault pmfirst_fault anfirst_fault cdfirst_fault ctfirst_fault), slfirst_fault⟩)
    (cfirst_fault : PySem.W.codeIn K cdfirst_fault "first_fault" = true)
    (kfirst_fault : PySem.W.keepIn K (.ref ffirst_fault) = true)
    (acheck_bodies : PySem.W.nsIn K mainGlobals "check_bodies" = some (some (.ref fcheck_bodies)))
    (lcheck_bodies : K.lookup fcheck_bodies = some ⟨occheck_bodies, odcheck_bodies, .func (PySem.W.fnOf "check_bodies" "check_bodies" (defArgs scheck_bodies) (defBody scheck_bodies) (defScope scheck_bodies) .none kVcheck_bodies dccheck_bodies pmcheck_bodies ancheck_bodies cdcheck_bodies ctcheck_bodies), slcheck_bodies⟩)
    (ccheck_bodies : PySem.W.codeIn K cdcheck_bodies "check_bodies" = true)
    (kcheck_bodies : PySem.W.keepIn K (.ref fcheck_bodies) = true)
    (astatement_at : PySem.W.nsIn K mainGlobals "statement_at" = some (some (.ref fstatement_at)))
    (lstatement_at : K.lookup fstatement_at = some ⟨ocstatement_at, odstatement_at, .func (PySem.W.fnOf "statement_at" "statement_at" (defArgs sstatement_at) (defBody sstatement_at) (defScope sstatement_at) .none kVstatement_at dcstatement_at pmstatement_at anstatement_at cdstatement_at ctstatement_at), slstatement_at⟩)
    (cstatement_at : PySem.W.codeIn K cdstatement_at "statement_at" = true)
    (kstatement_at : PySem.W.keepIn K (.ref fstatement_at) = true)
    (aBook : PySem.W.nsIn K mainGlobals "Book" = some (some (.ref CBook)))
    (pgBook : PySem.W.plainGet K CBook Str.empty = true)
    (hdBook : PySem.W.hasDictIn K CBook = true)
    (poBook : PySem.W.plainOver K CBook = true)
    (saBook : PySem.W.findIn K (.ref CBook) "__setattr__" = some (some (.builtin "object.__setattr__")))
    (mkBook : PySem.W.makesIn K CBook = true)
    (kcBook : PySem.W.keepIn K (.ref CBook) = true)
    (nBook_cells : PySem.W.findIn K (.ref CBook) "_cells" = some none)
    (nBook_bodies : PySem.W.findIn K (.ref CBook) "_bodies" = some none)
    (qLIST_LIMIT : PySem.W.nsIn K mainGlobals "LIST_LIMIT" = some (some (.int 8 tLIST_LIMIT)))
    (qPROCEDURE_LIMIT : PySem.W.nsIn K mainGlobals "PROCEDURE_LIMIT" = some (some (.int 12 tPROCEDURE_LIMIT)))
    (qLAST_LEVEL : PySem.W.nsIn K mainGlobals "LAST_LEVEL" = some (some (.int 3 tLAST_LEVEL)))
    (qROW_LIMIT : PySem.W.nsIn K mainGlobals "ROW_LIMIT" = some (some (.int 9 tROW_LIMIT)))
    (qMOST_CELLS : PySem.W.nsIn K mainGlobals "MOST_CELLS" = some (some (.int 3 tMOST_CELLS)))
    (qMOST_PROCEDURES : PySem.W.nsIn K mainGlobals "MOST_PROCEDURES" = some (some (.int 3 tMOST_PROCEDURES)))
    (qSIZES : PySem.W.nsIn K mainGlobals "SIZES" = some (some (.ref a_SIZES)))
    (dSIZES : K.lookup a_SIZES = some ⟨.type "dict", none, .dict esSIZES nSIZES, #[]⟩)
    (klSIZES : PySem.W.KeysLit w.params esSIZES.toList)
    (loSIZES : (a_SIZES == sysModules) = false)
    (wSIZES0 : PySem.W.nsIn K a_SIZES "set" = some (some (.int 3 tSIZES0)))
    (wSIZES1 : PySem.W.nsIn K a_SIZES "carry" = some (some (.int 2 tSIZES1)))
    (wSIZES2 : PySem.W.nsIn K a_SIZES "keep" = some (some (.int 3 tSIZES2)))
    (wSIZES3 : PySem.W.nsIn K a_SIZES "either" = some (some (.int 3 tSIZES3)))
    (wSIZES4 : PySem.W.nsIn K a_SIZES "again" = some (some (.int 2 tSIZES4)))
    (wSIZES5 : PySem.W.nsIn K a_SIZES "call" = some (some (.int 4 tSIZES5)))
    (wSIZES6 : PySem.W.nsIn K a_SIZES "end" = some (some (.int 2 tSIZES6)))
    (aBook___init__ : PySem.W.findIn K (.ref CBook) "__init__" = some (some (.ref fBook___init__)))
    (iBook___init__ : PySem.W.isFn K (.ref fBook___init__) = true)
    (lBook___init__ : K.lookup fBook___init__ = some ⟨ocBook___init__, odBook___init__, .func (PySem.W.fnOf "__init__" "Book.__init__" (defArgs sBook___init__) (defBody sBook___init__) (defScope sBook___init__) .none kVBook___init__ dcBook___init__ pmBook___init__ anBook___init__ cdBook___init__ ctBook___init__), slBook___init__⟩)
    (cBook___init__ : PySem.W.codeIn K cdBook___init__ "Book.__init__" = true)
    (kBook___init__ : PySem.W.keepIn K (.ref fBook___init__) = true)
    (aBook_cells : PySem.W.findIn K (.ref CBook) "cells" = some (some (.ref fBook_cells)))
    (iBook_cells : PySem.W.isFn K (.ref fBook_cells) = true)
    (lBook_cells : K.lookup fBook_cells = some ⟨ocBook_cells, odBook_cells, .func (PySem.W.fnOf "cells" "Book.cells" (defArgs sBook_cells) (defBody sBook_cells) (defScope sBook_cells) .none kVBook_cells dcBook_cells pmBook_cells anBook_cells cdBook_cells ctBook_cells), slBook_cells⟩)
    (cBook_cells : PySem.W.codeIn K cdBook_cells "Book.cells" = true)
    (kBook_cells : PySem.W.keepIn K (.ref fBook_cells) = true)
    (aBook_bodies : PySem.W.findIn K (.ref CBook) "bodies" = some (some (.ref fBook_bodies)))
    (iBook_bodies : PySem.W.isFn K (.ref fBook_bodies) = true)
    (lBook_bodies : K.lookup fBook_bodies = some ⟨ocBook_bodies, odBook_bodies, .func (PySem.W.fnOf "bodies" "Book.bodies" (defArgs sBook_bodies) (defBody sBook_bodies) (defScope sBook_bodies) .none kVBook_bodies dcBook_bodies pmBook_bodies anBook_bodies cdBook_bodies ctBook_bodies), slBook_bodies⟩)
    (cBook_bodies : PySem.W.codeIn K cdBook_bodies "Book.bodies" = true)
    (kBook_bodies : PySem.W.keepIn K (.ref fBook_bodies) = true)
    (qDIVIDERS : PySem.W.nsIn K mainGlobals "DIVIDERS" = some (some (.ref a_DIVIDERS)))
    (dDIVIDERS : K.lookup a_DIVIDERS = some ⟨.type "dict", none, .dict esDIVIDERS nDIVIDERS, #[]⟩)
    (klDIVIDERS : PySem.W.KeysLit w.params esDIVIDERS.toList)
    (loDIVIDERS : (a_DIVIDERS == sysModules) = false)
    (wDIVIDERS0 : PySem.W.nsIn K a_DIVIDERS "keep" = some (some (.ref u_DIVIDERS0)))
    (vDIVIDERS0 : K.lookup u_DIVIDERS0 = some ⟨.type "tuple", odDIVIDERS0, .seq #[.str "" tDIVIDERS0_0] nDIVIDERS0, slDIVIDERS0⟩)
    (wDIVIDERS1 : PySem.W.nsIn K a_DIVIDERS "again" = some (some (.ref u_DIVIDERS1)))
    (vDIVIDERS1 : K.lookup u_DIVIDERS1 = some ⟨.type "tuple", odDIVIDERS1, .seq #[.str "" tDIVIDERS1_0] nDIVIDERS1, slDIVIDERS1⟩)
    (wDIVIDERS2 : PySem.W.nsIn K a_DIVIDERS "either" = some (some (.ref u_DIVIDERS2)))
    (vDIVIDERS2 : K.lookup u_DIVIDERS2 = some ⟨.type "tuple", odDIVIDERS2, .seq #[.str "" tDIVIDERS2_0, .str "or" tDIVIDERS2_1] nDIVIDERS2, slDIVIDERS2⟩)
    (wDIVIDERS3 : PySem.W.nsIn K a_DIVIDERS "call" = some (some (.ref u_DIVIDERS3)))
    (vDIVIDERS3 : K.lookup u_DIVIDERS3 = some ⟨.type "tuple", odDIVIDERS3, .seq #[.str "way 0" tDIVIDERS3_0, .str "way 1" tDIVIDERS3_1] nDIVIDERS3, slDIVIDERS3⟩)
    (xDIVIDERS0 : PySem.W.nsIn K a_DIVIDERS "set" = some none)
    (xDIVIDERS1 : PySem.W.nsIn K a_DIVIDERS "carry" = some none)
    (xDIVIDERS2 : PySem.W.nsIn K a_DIVIDERS "end" = some none)
    (aindent_of : PySem.W.nsIn K mainGlobals "indent_of" = some (some (.ref findent_of)))
    (lindent_of : K.lookup findent_of = some ⟨ocindent_of, odindent_of, .func (PySem.W.fnOf "indent_of" "indent_of" (defArgs sindent_of) (defBody sindent_of) (defScope sindent_of) .none kVindent_of dcindent_of pmindent_of anindent_of cdindent_of ctindent_of), slindent_of⟩)
    (cindent_of : PySem.W.codeIn K cdindent_of "indent_of" = true)
    (kindent_of : PySem.W.keepIn K (.ref findent_of) = true)
    (ahead_of : PySem.W.nsIn K mainGlobals "head_of" = some (some (.ref fhead_of)))
    (lhead_of : K.lookup fhead_of = some ⟨ochead_of, odhead_of, .func (PySem.W.fnOf "head_of" "head_of" (defArgs shead_of) (defBody shead_of) (defScope shead_of) .none kVhead_of dchead_of pmhead_of anhead_of cdhead_of cthead_of), slhead_of⟩)
    (chead_of : PySem.W.codeIn K cdhead_of "head_of" = true)
    (khead_of : PySem.W.keepIn K (.ref fhead_of) = true)
    (alines_of : PySem.W.nsIn K mainGlobals "lines_of" = some (some (.ref flines_of)))
    (llines_of : K.lookup flines_of = some ⟨oclines_of, odlines_of, .func (PySem.W.fnOf "lines_of" "lines_of" (defArgs slines_of) (defBody slines_of) (defScope slines_of) .none kVlines_of dclines_of pmlines_of anlines_of cdlines_of ctlines_of), sllines_of⟩)
    (clines_of : PySem.W.codeIn K cdlines_of "lines_of" = true)
    (klines_of : PySem.W.keepIn K (.ref flines_of) = true)
    (abook_text : PySem.W.nsIn K mainGlobals "book_text" = some (some (.ref fbook_text)))
    (lbook_text : K.lookup fbook_text = some ⟨ocbook_text, odbook_text, .func (PySem.W.fnOf "book_text" "book_text" (defArgs sbook_text) (defBody sbook_text) (defScope sbook_text) .none kVbook_text dcbook_text pmbook_text anbook_text cdbook_text ctbook_text), slbook_text⟩)
    (cbook_text : PySem.W.codeIn K cdbook_text "book_text" = true)
    (kbook_text : PySem.W.keepIn K (.ref fbook_text) = true)
    (a_law_pool : PySem.W.nsIn K mainGlobals "_law_pool" = some (some (.ref f_law_pool)))
    (l_law_pool : K.lookup f_law_pool = some ⟨oc_law_pool, od_law_pool, .func (PySem.W.fnOf "_law_pool" "_law_pool" (defArgs s_law_pool) (defBody s_law_pool) (defScope s_law_pool) .none kV_law_pool dc_law_pool pm_law_pool an_law_pool cd_law_pool ct_law_pool), sl_law_pool⟩)
    (c_law_pool : PySem.W.codeIn K cd_law_pool "_law_pool" = true)
    (k_law_pool : PySem.W.keepIn K (.ref f_law_pool) = true)
    (a_law_draw : PySem.W.nsIn K mainGlobals "_law_draw" = some (some (.ref f_law_draw)))
    (l_law_draw : K.lookup f_law_draw = some ⟨oc_law_draw, od_law_draw, .func (PySem.W.fnOf "_law_draw" "_law_draw" (defArgs s_law_draw) (defBody s_law_draw) (defScope s_law_draw) .none kV_law_draw dc_law_draw pm_law_draw an_law_draw cd_law_draw ct_law_draw), sl_law_draw⟩)
    (c_law_draw : PySem.W.codeIn K cd_law_draw "_law_draw" = true)
    (k_law_draw : PySem.W.keepIn K (.ref f_law_draw) = true)
    (a_law_row : PySem.W.nsIn K mainGlobals "_law_row" = some (some (.ref f_law_row)))
    (l_law_row : K.lookup f_law_row = some ⟨oc_law_row, od_law_row, .func (PySem.W.fnOf "_law_row" "_law_row" (defArgs s_law_row) (defBody s_law_row) (defScope s_law_row) .none kV_law_row dc_law_row pm_law_row an_law_row cd_law_row ct_law_row), sl_law_row⟩)
    (c_law_row : PySem.W.codeIn K cd_law_row "_law_row" = true)
    (k_law_row : PySem.W.keepIn K (.ref f_law_row) = true)
    (a_law_command : PySem.W.nsIn K mainGlobals "_law_command" = some (some (.ref f_law_command)))
    (l_law_command : K.lookup f_law_command = some ⟨oc_law_command, od_law_command, .func (PySem.W.fnOf "_law_command" "_law_command" (defArgs s_law_command) (defBody s_law_command) (defScope s_law_command) .none kV_law_command dc_law_command pm_law_command an_law_command cd_law_command ct_law_command), sl_law_command⟩)
    (c_law_command : PySem.W.codeIn K cd_law_command "_law_command" = true)
    (k_law_command : PySem.W.keepIn K (.ref f_law_command) = true)
    (a_law_some_cells : PySem.W.nsIn K mainGlobals "_law_some_cells" = some (some (.ref f_law_some_cells)))
    (l_law_some_cells : K.lookup f_law_some_cells = some ⟨oc_law_some_cells, od_law_some_cells, .func (PySem.W.fnOf "_law_some_cells" "_law_some_cells" (defArgs s_law_some_cells) (defBody s_law_some_cells) (defScope s_law_some_cells) .none kV_law_some_cells dc_law_some_cells pm_law_some_cells an_law_some_cells cd_law_some_cells ct_law_some_cells), sl_law_some_cells⟩)
    (c_law_some_cells : PySem.W.codeIn K cd_law_some_cells "_law_some_cells" = true)
    (k_law_some_cells : PySem.W.keepIn K (.ref f_law_some_cells) = true)
    (a_law_block : PySem.W.nsIn K mainGlobals "_law_block" = some (some (.ref f_law_block)))
    (l_law_block : K.lookup f_law_block = some ⟨oc_law_block, od_law_block, .func (PySem.W.fnOf "_law_block" "_law_block" (defArgs s_law_block) (defBody s_law_block) (defScope s_law_block) .none kV_law_block dc_law_block pm_law_block an_law_block cd_law_block ct_law_block), sl_law_block⟩)
    (c_law_block : PySem.W.codeIn K cd_law_block "_law_block" = true)
    (k_law_block : PySem.W.keepIn K (.ref f_law_block) = true)
    (a_law_statement : PySem.W.nsIn K mainGlobals "_law_statement" = some (some (.ref f_law_statement)))
    (l_law_statement : K.lookup f_law_statement = some ⟨oc_law_statement, od_law_statement, .func (PySem.W.fnOf "_law_statement" "_law_statement" (defArgs s_law_statement) (defBody s_law_statement) (defScope s_law_statement) .none kV_law_statement dc_law_statement pm_law_statement an_law_statement cd_law_statement ct_law_statement), sl_law_statement⟩)
    (c_law_statement : PySem.W.codeIn K cd_law_statement "_law_statement" = true)
    (k_law_statement : PySem.W.keepIn K (.ref f_law_statement) = true)
    (a_law_body : PySem.W.nsIn K mainGlobals "_law_body" = some (some (.ref f_law_body)))
    (l_law_body : K.lookup f_law_body = some ⟨oc_law_body, od_law_body, .func (PySem.W.fnOf "_law_body" "_law_body" (defArgs s_law_body) (defBody s_law_body) (defScope s_law_body) .none kV_law_body dc_law_body pm_law_body an_law_body cd_law_body ct_law_body), sl_law_body⟩)
    (c_law_body : PySem.W.codeIn K cd_law_body "_law_body" = true)
    (k_law_body : PySem.W.keepIn K (.ref f_law_body) = true)
    (a_law_bodies : PySem.W.nsIn K mainGlobals "_law_bodies" = some (some (.ref f_law_bodies)))
    (l_law_bodies : K.lookup f_law_bodies = some ⟨oc_law_bodies, od_law_bodies, .func (PySem.W.fnOf "_law_bodies" "_law_bodies" (defArgs s_law_bodies) (defBody s_law_bodies) (defScope s_law_bodies) .none kV_law_bodies dc_law_bodies pm_law_bodies an_law_bodies cd_law_bodies ct_law_bodies), sl_law_bodies⟩)
    (c_law_bodies : PySem.W.codeIn K cd_law_bodies "_law_bodies" = true)
    (k_law_bodies : PySem.W.keepIn K (.ref f_law_bodies) = true)
    (a_law_same : PySem.W.nsIn K mainGlobals "_law_same" = some (some (.ref f_law_same)))
    (l_law_same : K.lookup f_law_same = some ⟨oc_law_same, od_law_same, .func (PySem.W.fnOf "_law_same" "_law_same" (defArgs s_law_same) (defBody s_law_same) (defScope s_law_same) .none kV_law_same dc_law_same pm_law_same an_law_same cd_law_same ct_law_same), sl_law_same⟩)
    (c_law_same : PySem.W.codeIn K cd_law_same "_law_same" = true)
    (k_law_same : PySem.W.keepIn K (.ref f_law_same) = true)
    (a_law_items : PySem.W.nsIn K mainGlobals "_law_items" = some (some (.ref f_law_items)))
    (l_law_items : K.lookup f_law_items = some ⟨oc_law_items, od_law_items, .func (PySem.W.fnOf "_law_items" "_law_items" (defArgs s_law_items) (defBody s_law_items) (defScope s_law_items) .none kV_law_items dc_law_items pm_law_items an_law_items cd_law_items ct_law_items), sl_law_items⟩)
    (c_law_items : PySem.W.codeIn K cd_law_items "_law_items" = true)
    (k_law_items : PySem.W.keepIn K (.ref f_law_items) = true)
    (a_law_lines : PySem.W.nsIn K mainGlobals "_law_lines" = some (some (.ref f_law_lines)))
    (l_law_lines : K.lookup f_law_lines = some ⟨oc_law_lines, od_law_lines, .func (PySem.W.fnOf "_law_lines" "_law_lines" (defArgs s_law_lines) (defBody s_law_lines) (defScope s_law_lines) .none kV_law_lines dc_law_lines pm_law_lines an_law_lines cd_law_lines ct_law_lines), sl_law_lines⟩)
    (c_law_lines : PySem.W.codeIn K cd_law_lines "_law_lines" = true)
    (k_law_lines : PySem.W.keepIn K (.ref f_law_lines) = true)
    (alaw : PySem.W.nsIn K mainGlobals "law" = some (some (.ref flaw)))
    (llaw : K.lookup flaw = some ⟨oclaw, odlaw, .func (PySem.W.fnOf "law" "law" (defArgs slaw) (defBody slaw) (defScope slaw) .none kVlaw dclaw pmlaw anlaw cdlaw ctlaw), sllaw⟩)
    (claw : PySem.W.codeIn K cdlaw "law" = true)
    (klaw : PySem.W.keepIn K (.ref flaw) = true)
    (y_int : PySem.W.nsIn K mainGlobals "int" = some none)
    (y_len : PySem.W.nsIn K mainGlobals "len" = some none)
    (y_list : PySem.W.nsIn K mainGlobals "list" = some none)
    (y_tuple : PySem.W.nsIn K mainGlobals "tuple" = some none)
    (y_range : PySem.W.nsIn K mainGlobals "range" = some none)
    (y_isinstance : PySem.W.nsIn K mainGlobals "isinstance" = some none)
    (y_bool : PySem.W.nsIn K mainGlobals "bool" = some none)
    (y_str : PySem.W.nsIn K mainGlobals "str" = some none)
    (y_dict : PySem.W.nsIn K mainGlobals "dict" = some none)
    (y_all : PySem.W.nsIn K mainGlobals "all" = some none)
    (y_zip : PySem.W.nsIn K mainGlobals "zip" = some none)
    (y_enumerate : PySem.W.nsIn K mainGlobals "enumerate" = some none)
    (y_reversed : PySem.W.nsIn K mainGlobals "reversed" = some none) :
    ∃ fd : FuncData, (∀ (s : Shared) (v : Value), BindsTo s fd ⟨[v], []⟩ [("script", v)]) ∧ ∀ base : Heap, K.In base → base.Ns mainGlobals mg → FnOk l.prog w K mg base CX0 18 fa fd ["script"] (spLaw K) := by
  have e := hfa.symm.trans (PySem.W.mg_of X G alaw)
  cases e
  have Fis_integer := fun_mk (st := sis_integer) lis_integer cis_integer kis_integer
  have bis_integer := Fis_integer.binds (ps := ["value"]) fun _ _ _ _ _ _ us hl => match us, hl with | [_], _ => rfl
  have gis_integer := PySem.W.mg_of X G ais_integer
  have Fis_between := fun_mk (st := sis_between) lis_between cis_between kis_between
  have bis_between := Fis_between.binds (ps := ["value", "low", "high"]) fun _ _ _ _ _ _ us hl => match us, hl with | [_, _, _], _ => rfl
  have gis_between := PySem.W.mg_of X G ais_between
  have Fis_bit := fun_mk (st := sis_bit) lis_bit cis_bit kis_bit
  have bis_bit := Fis_bit.binds (ps := ["value"]) fun _ _ _ _ _ _ us hl => match us, hl with | [_], _ => rfl
  have gis_bit := PySem.W.mg_of X G ais_bit
  have Fis_index := fun_mk (st := sis_index) lis_index cis_index kis_index
  have bis_index := Fis_index.binds (ps := ["value", "many"]) fun _ _ _ _ _ _ us hl => match us, hl with | [_, _], _ => rfl
  have gis_index := PySem.W.mg_of X G ais_index
  have Fis_cell_list := fun_mk (st := sis_cell_list) lis_cell_list cis_cell_list kis_cell_list
  have bis_cell_list := Fis_cell_list.binds (ps := ["value", "cells"]) fun _ _ _ _ _ _ us hl => match us, hl with | [_, _], _ => rfl
  have gis_cell_list := PySem.W.mg_of X G ais_cell_list
  have Fcopied := fun_mk (st := scopied) lcopied ccopied kcopied
  have bcopied := Fcopied.binds (ps := ["value"]) fun _ _ _ _ _ _ us hl => match us, hl with | [_], _ => rfl
  have gcopied := PySem.W.mg_of X G acopied
  have Fis_row := fun_mk (st := sis_row) lis_row cis_row kis_row
  have bis_row := Fis_row.binds (ps := ["value", "cells"]) fun _ _ _ _ _ _ us hl => match us, hl with | [_, _], _ => rfl
  have gis_row := PySem.W.mg_of X G ais_row
  have Fis_block_pair := fun_mk (st := sis_block_pair) lis_block_pair cis_block_pair kis_block_pair
  have bis_block_pair := Fis_block_pair.binds (ps := ["value"]) fun _ _ _ _ _ _ us hl => match us, hl with | [_], _ => rfl
  have gis_block_pair := PySem.W.mg_of X G ais_block_pair
  have Fis_sized := fun_mk (st := sis_sized) lis_sized cis_sized kis_sized
  have bis_sized := Fis_sized.binds (ps := ["value"]) fun _ _ _ _ _ _ us hl => match us, hl with | [_], _ => rfl
  have gis_sized := PySem.W.mg_of X G ais_sized
  have Fis_statement := fun_mk (st := sis_statement) lis_statement cis_statement kis_statement
  have bis_statement := Fis_statement.binds (ps := ["value", "cells", "procedures"]) fun _ _ _ _ _ _ us hl => match us, hl with | [_, _, _], _ => rfl
  have gis_statement := PySem.W.mg_of X G ais_statement
  have Fblocks_of := fun_mk (st := sblocks_of) lblocks_of cblocks_of kblocks_of
  have bblocks_of := Fblocks_of.binds (ps := ["statement"]) fun _ _ _ _ _ _ us hl => match us, hl with | [_], _ => rfl
  have gblocks_of := PySem.W.mg_of X G ablocks_of
  have Fplaces := fun_mk (st := splaces) lplaces cplaces kplaces
  have bplaces := Fplaces.binds (ps := ["body"]) fun _ _ _ _ _ _ us hl => match us, hl with | [_], _ => rfl
  have gplaces := PySem.W.mg_of X G aplaces
  have Fentries := fun_mk (st := sentries) lentries centries kentries
  have bentries := Fentries.binds (ps := ["block", "path"]) fun _ _ _ _ _ _ us hl => match us, hl with | [_, _], _ => rfl
  have gentries := PySem.W.mg_of X G aentries
  have Ffits := fun_mk (st := sfits) lfits cfits kfits
  have bfits := Ffits.binds (ps := ["value", "path", "cells", "procedures"]) fun _ _ _ _ _ _ us hl => match us, hl with | [_, _, _, _], _ => rfl
  have gfits := PySem.W.mg_of X G afits
  have Ffirst_fault := fun_mk (st := sfirst_fault) lfirst_fault cfirst_fault kfirst_fault
  have bfirst_fault := Ffirst_fault.binds (ps := ["body", "cells", "procedures"]) fun _ _ _ _ _ _ us hl => match us, hl with | [_, _, _], _ => rfl
  have gfirst_fault := PySem.W.mg_of X G afirst_fault
  have Fcheck_bodies := fun_mk (st := scheck_bodies) lcheck_bodies ccheck_bodies kcheck_bodies
  have bcheck_bodies := Fcheck_bodies.binds (ps := ["cells", "bodies"]) fun _ _ _ _ _ _ us hl => match us, hl with | [_, _], _ => rfl
  have gcheck_bodies := PySem.W.mg_of X G acheck_bodies
  have Fstatement_at := fun_mk (st := sstatement_at) lstatement_at cstatement_at kstatement_at
  have bstatement_at := Fstatement_at.binds (ps := ["body", "path"]) fun _ _ _ _ _ _ us hl => match us, hl with | [_, _], _ => rfl
  have gstatement_at := PySem.W.mg_of X G astatement_at
  have gBook := PySem.W.mg_of X G aBook
  have clBook : Cls K CBook := ⟨pgBook, hdBook, poBook, saBook⟩
  have c_LIST_LIMIT := PySem.W.mg_of X G qLIST_LIMIT
  have c_PROCEDURE_LIMIT := PySem.W.mg_of X G qPROCEDURE_LIMIT
  have c_LAST_LEVEL := PySem.W.mg_of X G qLAST_LEVEL
  have c_ROW_LIMIT := PySem.W.mg_of X G qROW_LIMIT
  have c_MOST_CELLS := PySem.W.mg_of X G qMOST_CELLS
  have c_MOST_PROCEDURES := PySem.W.mg_of X G qMOST_PROCEDURES
  have c_SIZES := PySem.W.mg_of X G qSIZES
  have FBook___init__ := fun_mk (st := sBook___init__) lBook___init__ cBook___init__ kBook___init__
  have bBook___init__ := FBook___init__.binds (ps := ["self", "cells", "bodies"]) fun _ _ _ _ _ _ us hl => match us, hl with | [_, _, _], _ => rfl
  have FBook_cells := fun_mk (st := sBook_cells) lBook_cells cBook_cells kBook_cells
  have bBook_cells := FBook_cells.binds (ps := ["self"]) fun _ _ _ _ _ _ us hl => match us, hl with | [_], _ => rfl
  have FBook_bodies := fun_mk (st := sBook_bodies) lBook_bodies cBook_bodies kBook_bodies
  have bBook_bodies := FBook_bodies.binds (ps := ["self"]) fun _ _ _ _ _ _ us hl => match us, hl with | [_], _ => rfl
  have c_DIVIDERS := PySem.W.mg_of X G qDIVIDERS
  have Findent_of := fun_mk (st := sindent_of) lindent_of cindent_of kindent_of
  have bindent_of := Findent_of.binds (ps := ["level"]) fun _ _ _ _ _ _ us hl => match us, hl with | [_], _ => rfl
  have gindent_of := PySem.W.mg_of X G aindent_of
  have Fhead_of := fun_mk (st := shead_of) lhead_of chead_of khead_of
  have bhead_of := Fhead_of.binds (ps := ["statement"]) fun _ _ _ _ _ _ us hl => match us, hl with | [_], _ => rfl
  have ghead_of := PySem.W.mg_of X G ahead_of
  have Flines_of := fun_mk (st := slines_of) llines_of clines_of klines_of
  have blines_of := Flines_of.binds (ps := ["block", "level"]) fun _ _ _ _ _ _ us hl => match us, hl with | [_, _], _ => rfl
  have glines_of := PySem.W.mg_of X G alines_of
  have Fbook_text := fun_mk (st := sbook_text) lbook_text cbook_text kbook_text
  have bbook_text := Fbook_text.binds (ps := ["book"]) fun _ _ _ _ _ _ us hl => match us, hl with | [_], _ => rfl
  have gbook_text := PySem.W.mg_of X G abook_text
  have F_law_pool := fun_mk (st := s_law_pool) l_law_pool c_law_pool k_law_pool
  have b_law_pool := F_law_pool.binds (ps := ["script"]) fun _ _ _ _ _ _ us hl => match us, hl with | [_], _ => rfl
  have g_law_pool := PySem.W.mg_of X G a_law_pool
  have F_law_draw := fun_mk (st := s_law_draw) l_law_draw c_law_draw k_law_draw
  have b_law_draw := F_law_draw.binds (ps := ["pool", "many"]) fun _ _ _ _ _ _ us hl => match us, hl with | [_, _], _ => rfl
  have g_law_draw := PySem.W.mg_of X G a_law_draw
  have F_law_row := fun_mk (st := s_law_row) l_law_row c_law_row k_law_row
  have b_law_row := F_law_row.binds (ps := ["pool", "cells"]) fun _ _ _ _ _ _ us hl => match us, hl with | [_, _], _ => rfl
  have g_law_row := PySem.W.mg_of X G a_law_row
  have F_law_command := fun_mk (st := s_law_command) l_law_command c_law_command k_law_command
  have b_law_command := F_law_command.binds (ps := ["pool", "cells"]) fun _ _ _ _ _ _ us hl => match us, hl with | [_, _], _ => rfl
  have g_law_command := PySem.W.mg_of X G a_law_command
  have F_law_some_cells := fun_mk (st := s_law_some_cells) l_law_some_cells c_law_some_cells k_law_some_cells
  have b_law_some_cells := F_law_some_cells.binds (ps := ["pool", "cells"]) fun _ _ _ _ _ _ us hl => match us, hl with | [_, _], _ => rfl
  have g_law_some_cells := PySem.W.mg_of X G a_law_some_cells
  have F_law_block := fun_mk (st := s_law_block) l_law_block c_law_block k_law_block
  have b_law_block := F_law_block.binds (ps := ["pool", "world", "tier", "most"]) fun _ _ _ _ _ _ us hl => match us, hl with | [_, _, _, _], _ => rfl
  have g_law_block := PySem.W.mg_of X G a_law_block
  have F_law_statement := fun_mk (st := s_law_statement) l_law_statement c_law_statement k_law_statement
  have b_law_statement := F_law_statement.binds (ps := ["pool", "world", "tier"]) fun _ _ _ _ _ _ us hl => match us, hl with | [_, _, _], _ => rfl
  have g_law_statement := PySem.W.mg_of X G a_law_statement
  have F_law_body := fun_mk (st := s_law_body) l_law_body c_law_body k_law_body
  have b_law_body := F_law_body.binds (ps := ["pool", "cells", "many", "room", "tier"]) fun _ _ _ _ _ _ us hl => match us, hl with | [_, _, _, _, _], _ => rfl
  have g_law_body := PySem.W.mg_of X G a_law_body
  have F_law_bodies := fun_mk (st := s_law_bodies) l_law_bodies c_law_bodies k_law_bodies
  have b_law_bodies := F_law_bodies.binds (ps := ["pool", "cells", "many", "room"]) fun _ _ _ _ _ _ us hl => match us, hl with | [_, _, _, _], _ => rfl
  have g_law_bodies := PySem.W.mg_of X G a_law_bodies
  have F_law_same := fun_mk (st := s_law_same) l_law_same c_law_same k_law_same
  have b_law_same := F_law_same.binds (ps := ["actual", "due"]) fun _ _ _ _ _ _ us hl => match us, hl with | [_, _], _ => rfl
  have g_law_same := PySem.W.mg_of X G a_law_same
  have F_law_items := fun_mk (st := s_law_items) l_law_items c_law_items k_law_items
  have b_law_items := F_law_items.binds (ps := ["numbers"]) fun _ _ _ _ _ _ us hl => match us, hl with | [_], _ => rfl
  have g_law_items := PySem.W.mg_of X G a_law_items
  have F_law_lines := fun_mk (st := s_law_lines) l_law_lines c_law_lines k_law_lines
  have b_law_lines := F_law_lines.binds (ps := ["block", "spaces"]) fun _ _ _ _ _ _ us hl => match us, hl with | [_, _], _ => rfl
  have g_law_lines := PySem.W.mg_of X G a_law_lines
  have Flaw := fun_mk (st := slaw) llaw claw klaw
  have blaw := Flaw.binds (ps := ["script"]) fun _ _ _ _ _ _ us hl => match us, hl with | [_], _ => rfl
  have glaw := PySem.W.mg_of X G alaw
  have z_int := PySem.W.mg_none_of X G y_int
  have z_len := PySem.W.mg_none_of X G y_len
  have z_list := PySem.W.mg_none_of X G y_list
  have z_tuple := PySem.W.mg_none_of X G y_tuple
  have z_range := PySem.W.mg_none_of X G y_range
  have z_isinstance := PySem.W.mg_none_of X G y_isinstance
  have z_bool := PySem.W.mg_none_of X G y_bool
  have z_str := PySem.W.mg_none_of X G y_str
  have z_dict := PySem.W.mg_none_of X G y_dict
  have z_all := PySem.W.mg_none_of X G y_all
  have z_zip := PySem.W.mg_none_of X G y_zip
  have z_enumerate := PySem.W.mg_none_of X G y_enumerate
  have z_reversed := PySem.W.mg_none_of X G y_reversed
  refine ⟨PySem.W.fnOf "law" "law" (defArgs slaw) (defBody slaw) (defScope slaw) .none kVlaw dclaw pmlaw anlaw cdlaw ctlaw, fun s v => .of_eq rfl, fun base _ _ => ?_⟩
  have S7 : Sizes K w a_SIZES esSIZES nSIZES ok7 := sizes7 ⟨dSIZES, klSIZES, loSIZES⟩ wSIZES0 wSIZES1 wSIZES2 wSIZES3 wSIZES4 wSIZES5 wSIZES6
  have Cis_integer : Cal l.prog w K mg base 1 "is_integer" (spInt K) [] := ⟨_, _, _, [], ok_is_integer Fis_integer z_isinstance z_int z_bool, gis_integer, Fis_integer.kp, bis_integer, .nil⟩
  have Cis_between : Cal l.prog w K mg base 2 "is_between" (spBtw K) [] := ⟨_, _, _, [], ok_is_between Fis_between Cis_integer (by decide), gis_between, Fis_between.kp, bis_between, .nil⟩
  have Cis_bit : Cal l.prog w K mg base 3 "is_bit" (spBit K) [] := ⟨_, _, _, [], ok_is_bit Fis_bit Cis_between (by decide), gis_bit, Fis_bit.kp, bis_bit, .nil⟩
  have Cis_index : Cal l.prog w K mg base 3 "is_index" (spIx K) [] := ⟨_, _, _, [], ok_is_index Fis_index Cis_between (by decide), gis_index, Fis_index.kp, bis_index, .nil⟩
  have Cis_row : Cal l.prog w K mg base 3 "is_row" (spRw K) [] := ⟨_, _, _, [], ok_is_row Fis_row z_isinstance z_list z_len z_all c_ROW_LIMIT Cis_between (by decide), gis_row, Fis_row.kp, bis_row, .nil⟩
  have Cis_block_pair : Cal l.prog w K mg base 1 "is_block_pair" (spPair K) [] := ⟨_, _, _, [], ok_is_block_pair Fis_block_pair z_isinstance z_list z_len, gis_block_pair, Fis_block_pair.kp, bis_block_pair, .nil⟩
  have Cis_sized : Cal l.prog w K mg base 1 "is_sized" (spSized K ok7) [] := ⟨_, _, _, [], ok_is_sized Fis_sized z_isinstance z_tuple z_str z_len c_SIZES S7, gis_sized, Fis_sized.kp, bis_sized, .nil⟩
  have Cis_cell_list : Cal l.prog w K mg base 4 "is_cell_list" (spCl K) [] := ⟨_, _, _, [], ok_is_cell_list Fis_cell_list z_isinstance z_list z_all z_zip Cis_index (by decide), gis_cell_list, Fis_cell_list.kp, bis_cell_list, .nil⟩
  have Cis_statement : Cal l.prog w K mg base 5 "is_statement" (spStm K ok7) [] := ⟨_, _, _, [], ok_is_statement Fis_statement z_isinstance z_list Cis_sized Cis_index Cis_bit Cis_row Cis_cell_list Cis_block_pair (by decide), gis_statement, Fis_statement.kp, bis_statement, .nil⟩
  have Cblocks_of : Cal l.prog w K mg base 1 "blocks_of" (spBlocks K) [] := ⟨_, _, _, [], ok_blocks_of Fblocks_of, gblocks_of, Fblocks_of.kp, bblocks_of, .nil⟩
  have Centries : Cal l.prog w K mg base 1 "entries" (spEntries K) [] := ⟨_, _, _, [], ok_entries Fentries z_range z_reversed z_len, gentries, Fentries.kp, bentries, .nil⟩
  have Cfits : Cal l.prog w K mg base 6 "fits" (spFits K ok7) [] := ⟨_, _, _, [], ok_fits Ffits z_len c_LIST_LIMIT c_LAST_LEVEL Cis_statement Cblocks_of (by decide), gfits, Ffits.kp, bfits, .nil⟩
  have Cfirst_fault : Cal l.prog w K mg base 7 "first_fault" (spFF K ok7) [] := ⟨_, _, _, [], ok_first_fault Ffirst_fault z_range z_reversed z_len c_PROCEDURE_LIMIT Centries Cfits Cblocks_of (by decide), gfirst_fault, Ffirst_fault.kp, bfirst_fault, .nil⟩
  have Ccheck_bodies : Cal l.prog w K mg base 8 "check_bodies" (spChk K ok7) [] := ⟨_, _, _, [], ok_check_bodies Fcheck_bodies z_isinstance z_list z_len z_enumerate c_MOST_PROCEDURES Cfirst_fault (by decide), gcheck_bodies, Fcheck_bodies.kp, bcheck_bodies, .nil⟩
  have Ccopied : Cal l.prog w K mg base 15 "copied" (spCopy K 15) [] := ⟨_, _, _, [], ok_copied Fcopied gcopied bcopied z_isinstance z_list z_tuple z_dict 15, gcopied, Fcopied.kp, bcopied, .nil⟩
  have MBook : C8.Mak l.prog w K mg base 16 "Book" CBook (spInit K ok7 CBook 15) [] := mak_Book ⟨mkBook, aBook___init__, iBook___init__, kcBook⟩ gBook FBook___init__ bBook___init__ clBook nBook_cells nBook_bodies c_MOST_CELLS Cis_between Ccheck_bodies Ccopied (by decide) (by decide)
  have DV : Divs K w a_DIVIDERS esDIVIDERS nDIVIDERS := divs_of ⟨dDIVIDERS, klDIVIDERS, loDIVIDERS⟩ xDIVIDERS0 xDIVIDERS1 xDIVIDERS2 wDIVIDERS0 wDIVIDERS1 wDIVIDERS2 wDIVIDERS3 (sqT_k1 vDIVIDERS0) (sqT_k1 vDIVIDERS1) (sqT_k2 vDIVIDERS2) (sqT_k2 vDIVIDERS3)
  have Cindent_of : Cal l.prog w K mg base 1 "indent_of" spInd [] := ⟨_, _, _, [], ok_indent_of Findent_of, gindent_of, Findent_of.kp, bindent_of, .nil⟩
  have Chead_of : Cal l.prog w K mg base 1 "head_of" (spHead K) [] := ⟨_, _, _, [], ok_head_of Fhead_of z_str, ghead_of, Fhead_of.kp, bhead_of, .nil⟩
  have Clines_of : Cal l.prog w K mg base 6 "lines_of" (spLin K 5) [] := ⟨_, _, _, [], ok_lines_of (kk := 1) Flines_of glines_of blines_of DV z_zip c_DIVIDERS Cindent_of Chead_of Cblocks_of (by decide) 5, glines_of, Flines_of.kp, blines_of, .nil⟩
  have OC := ok_cells_told (P := l.prog) (w := w) (mg := mg) (base := base) (k := 0) FBook_cells clBook nBook_cells
  have OB := ok_bodies_told (P := l.prog) (w := w) (base := base) (k := 15) (cn := 15) FBook_bodies clBook nBook_bodies Ccopied (by decide)
  have Cbook_text : Cal l.prog w K mg base 17 "book_text" (spText K CBook) [] := ⟨_, _, _, [], ok_book_text (k := 16) Fbook_text clBook OC ⟨aBook_cells, iBook_cells, kBook_cells⟩ bBook_cells OB ⟨aBook_bodies, iBook_bodies, kBook_bodies⟩ bBook_bodies z_enumerate Clines_of (by decide), gbook_text, Fbook_text.kp, bbook_text, .nil⟩
  have C_law_pool : Cal l.prog w K mg base 1 "_law_pool" (spPool K) [] := ⟨_, _, _, [], ok_pool F_law_pool z_int z_list, g_law_pool, F_law_pool.kp, b_law_pool, .nil⟩
  have C_law_draw : Cal l.prog w K mg base 1 "_law_draw" spDraw [] := ⟨_, _, _, [], ok_draw F_law_draw z_int z_len, g_law_draw, F_law_draw.kp, b_law_draw, .nil⟩
  have C_law_row : Cal l.prog w K mg base 2 "_law_row" spRow [] := ⟨_, _, _, [], ok_row F_law_row z_range C_law_draw (by decide), g_law_row, F_law_row.kp, b_law_row, .nil⟩
  have C_law_command : Cal l.prog w K mg base 3 "_law_command" spCmd [] := ⟨_, _, _, [], ok_command F_law_command C_law_draw C_law_row (by decide), g_law_command, F_law_command.kp, b_law_command, .nil⟩
  have C_law_some_cells : Cal l.prog w K mg base 2 "_law_some_cells" spCells [] := ⟨_, _, _, [], ok_cells F_law_some_cells z_range C_law_draw (by decide), g_law_some_cells, F_law_some_cells.kp, b_law_some_cells, .nil⟩
  have LV := gen_levels F_law_statement F_law_block g_law_statement g_law_block b_law_statement b_law_block z_range C_law_draw C_law_row C_law_command C_law_some_cells
  have C_law_statement : Cal l.prog w K mg base 10 "_law_statement" (spStmt 0) [] := (LV 3 1 rfl).2 0 rfl
  have C_law_block : Cal l.prog w K mg base 11 "_law_block" (spBlk 0) [] := (LV 4 0 rfl).1
  have C_law_body : Cal l.prog w K mg base 12 "_law_body" spBody [] := ⟨_, _, _, [], ok_body F_law_body C_law_statement C_law_block (by decide), g_law_body, F_law_body.kp, b_law_body, .nil⟩
  have C_law_bodies : Cal l.prog w K mg base 13 "_law_bodies" spBodies [] := ⟨_, _, _, [], ok_bodies F_law_bodies z_range C_law_body (by decide), g_law_bodies, F_law_bodies.kp, b_law_bodies, .nil⟩
  have C_law_same : Cal l.prog w K mg base 15 "_law_same" (spSame K 15) [] := ⟨_, _, _, [], ok_same F_law_same g_law_same b_law_same z_len z_isinstance z_bool z_int z_str z_list z_tuple z_range 15, g_law_same, F_law_same.kp, b_law_same, .nil⟩
  have C_law_items : Cal l.prog w K mg base 1 "_law_items" (spItems K) [] := ⟨_, _, _, [], ok_items F_law_items z_str, g_law_items, F_law_items.kp, b_law_items, .nil⟩
  have C_law_lines : Cal l.prog w K mg base 6 "_law_lines" (spLLin K 5) [] := ⟨_, _, _, [], ok_llines (kk := 1) F_law_lines g_law_lines b_law_lines C_law_items (by decide) 5, g_law_lines, F_law_lines.kp, b_law_lines, .nil⟩
  exact ok_law (k := 17) Flaw ok7_words z_range z_str C_law_pool C_law_draw C_law_bodies C_law_lines C_law_same MBook Cbook_text (by decide)
end My
open PySem PySem.W PyProof.Rows
set_option maxHeartbeats 0 in
theorem PySem.Challenge.cw_sharedboard_k18_texts_written_holds : PySem.Challenge.rw_sharedboard_k18_texts_written.Holds := by
  w_on; o_law; k_head; (case hw => w_witness2)
  k_fill
  refine L2.walk_of (l := PySem.Challenge.rw_sharedboard_k18_texts_written) (n := 63) (k := 18) (x := "script") (CX := fun _ => L2.CX0) (sp := fun w => My.spLaw _) rfl (by decide) rfl ⟨rfl, by decide, by decide⟩ (fun w h Y => PySem.W.kIn_of Y) ?F (fun _ _ a ns hl _ hS => ⟨a, ns, rfl, hS, fun _ => rfl⟩) (fun _ _ _ _ _ h => h)
  case F =>
    intro w mg fa h KX G hmg
    refine' My.all_mk KX G hmg ?ais_integer ?lis_integer ?cis_integer ?kis_integer ?ais_between ?lis_between ?cis_between ?kis_between ?ais_bit ?lis_bit ?cis_bit ?kis_bit ?ais_index ?lis_index ?cis_index ?kis_index ?ais_cell_list ?lis_cell_list ?cis_cell_list ?kis_cell_list ?acopied ?lcopied ?ccopied ?kcopied ?ais_row ?lis_row ?cis_row ?kis_row ?ais_block_pair ?lis_block_pair ?cis_block_pair ?kis_block_pair ?ais_sized ?lis_sized ?cis_sized ?kis_sized ?ais_statement ?lis_statement ?cis_statement ?kis_statement ?ablocks_of ?lblocks_of ?cblocks_of ?kblocks_of ?aplaces ?lplaces ?cplaces ?kplaces ?aentries ?lentries ?centries ?kentries ?afits ?lfits ?cfits ?kfits ?afirst_fault ?lfirst_fault ?cfirst_fault ?kfirst_fault ?acheck_bodies ?lcheck_bodies ?ccheck_bodies ?kcheck_bodies ?astatement_at ?lstatement_at ?cstatement_at ?kstatement_at ?aBook ?pgBook ?hdBook ?poBook ?saBook ?mkBook ?kcBook ?nBook_cells ?nBook_bodies ?qLIST_LIMIT ?qPROCEDURE_LIMIT ?qLAST_LEVEL ?qROW_LIMIT ?qMOST_CELLS ?qMOST_PROCEDURES ?qSIZES ?dSIZES ?klSIZES ?loSIZES ?wSIZES0 ?wSIZES1 ?wSIZES2 ?wSIZES3 ?wSIZES4 ?wSIZES5 ?wSIZES6 ?aBook___init__ ?iBook___init__ ?lBook___init__ ?cBook___init__ ?kBook___init__ ?aBook_cells ?iBook_cells ?lBook_cells ?cBook_cells ?kBook_cells ?aBook_bodies ?iBook_bodies ?lBook_bodies ?cBook_bodies ?kBook_bodies ?qDIVIDERS ?dDIVIDERS ?klDIVIDERS ?loDIVIDERS ?wDIVIDERS0 ?vDIVIDERS0 ?wDIVIDERS1 ?vDIVIDERS1 ?wDIVIDERS2 ?vDIVIDERS2 ?wDIVIDERS3 ?vDIVIDERS3 ?xDIVIDERS0 ?xDIVIDERS1 ?xDIVIDERS2 ?aindent_of ?lindent_of ?cindent_of ?kindent_of ?ahead_of ?lhead_of ?chead_of ?khead_of ?alines_of ?llines_of ?clines_of ?klines_of ?abook_text ?lbook_text ?cbook_text ?kbook_text ?a_law_pool ?l_law_pool ?c_law_pool ?k_law_pool ?a_law_draw ?l_law_draw ?c_law_draw ?k_law_draw ?a_law_row ?l_law_row ?c_law_row ?k_law_row ?a_law_command ?l_law_command ?c_law_command ?k_law_command ?a_law_some_cells ?l_law_some_cells ?c_law_some_cells ?k_law_some_cells ?a_law_block ?l_law_block ?c_law_block ?k_law_block ?a_law_statement ?l_law_statement ?c_law_statement ?k_law_statement ?a_law_body ?l_law_body ?c_law_body ?k_law_body ?a_law_bodies ?l_law_bodies ?c_law_bodies ?k_law_bodies ?a_law_same ?l_law_same ?c_law_same ?k_law_same ?a_law_items ?l_law_items ?c_law_items ?k_law_items ?a_law_lines ?l_law_lines ?c_law_lines ?k_law_lines ?alaw ?llaw ?claw ?klaw ?y_int ?y_len ?y_list ?y_tuple ?y_range ?y_isinstance ?y_bool ?y_str ?y_dict ?y_all ?y_zip ?y_enumerate ?y_reversed
    (case ais_integer => k_is)
    (case lis_integer => k_is)
    (case cis_integer => k_is)
    (case kis_integer => k_is)
    (case ais_between => k_is)
    (case lis_between => k_is)
    (case cis_between => k_is)
    (case kis_between => k_is)
    (case ais_bit => k_is)
    (case lis_bit => k_is)
    (case cis_bit => k_is)
    (case kis_bit => k_is)
    (case ais_index => k_is)
    (case lis_index => k_is)
    (case cis_index => k_is)
    (case kis_index => k_is)
    (case ais_cell_list => k_is)
    (case lis_cell_list => k_is)
    (case cis_cell_list => k_is)
    (case kis_cell_list => k_is)
    (case acopied => k_is)
    (case lcopied => k_is)
    (case ccopied => k_is)
    (case kcopied => k_is)
    (case ais_row => k_is)
    (case lis_row => k_is)
    (case cis_row => k_is)
    (case kis_row => k_is)
    (case ais_block_pair => k_is)
    (case lis_block_pair => k_is)
    (case cis_block_pair => k_is)
    (case kis_block_pair => k_is)
    (case ais_sized => k_is)
    (case lis_sized => k_is)
    (case cis_sized => k_is)
    (case kis_sized => k_is)
    (case ais_statement => k_is)
    (case lis_statement => k_is)
    (case cis_statement => k_is)
    (case kis_statement => k_is)
    (case ablocks_of => k_is)
    (case lblocks_of => k_is)
    (case cblocks_of => k_is)
    (case kblocks_of => k_is)
    (case aplaces => k_is)
    (case lplaces => k_is)
    (case cplaces => k_is)
    (case kplaces => k_is)
    (case aentries => k_is)
    (case lentries => k_is)
    (case centries => k_is)
    (case kentries => k_is)
    (case afits => k_is)
    (case lfits => k_is)
    (case cfits => k_is)
    (case kfits => k_is)
    (case afirst_fault => k_is)
    (case lfirst_fault => k_is)
    (case cfirst_fault => k_is)
    (case kfirst_fault => k_is)
    (case acheck_bodies => k_is)
    (case lcheck_bodies => k_is)
    (case ccheck_bodies => k_is)
    (case kcheck_bodies => k_is)
    (case astatement_at => k_is)
    (case lstatement_at => k_is)
    (case cstatement_at => k_is)
    (case kstatement_at => k_is)
    (case aBook => k_is)
    (case pgBook => k_is)
    (case hdBook => k_is)
    (case poBook => k_is)
    (case saBook => k_is)
    (case mkBook => k_is)
    (case kcBook => k_is)
    (case nBook_cells => k_is)
    (case nBook_bodies => k_is)
    (case qLIST_LIMIT => k_is)
    (case qPROCEDURE_LIMIT => k_is)
    (case qLAST_LEVEL => k_is)
    (case qROW_LIMIT => k_is)
    (case qMOST_CELLS => k_is)
    (case qMOST_PROCEDURES => k_is)
    (case qSIZES => k_is)
    (case dSIZES => k_is)
    (case klSIZES => k_keys)
    (case loSIZES => first | rfl | decide | k_is)
    (case wSIZES0 => k_is)
    (case wSIZES1 => k_is)
    (case wSIZES2 => k_is)
    (case wSIZES3 => k_is)
    (case wSIZES4 => k_is)
    (case wSIZES5 => k_is)
    (case wSIZES6 => k_is)
    (case aBook___init__ => k_is)
    (case iBook___init__ => k_is)
    (case lBook___init__ => k_is)
    (case cBook___init__ => k_is)
    (case kBook___init__ => k_is)
    (case aBook_cells => k_is)
    (case iBook_cells => k_is)
    (case lBook_cells => k_is)
    (case cBook_cells => k_is)
    (case kBook_cells => k_is)
    (case aBook_bodies => k_is)
    (case iBook_bodies => k_is)
    (case lBook_bodies => k_is)
    (case cBook_bodies => k_is)
    (case kBook_bodies => k_is)
    (case qDIVIDERS => k_is)
    (case dDIVIDERS => k_is)
    (case klDIVIDERS => k_keys)
    (case loDIVIDERS => first | rfl | decide | k_is)
    (case wDIVIDERS0 => k_is)
    (case vDIVIDERS0 => k_is)
    (case wDIVIDERS1 => k_is)
    (case vDIVIDERS1 => k_is)
    (case wDIVIDERS2 => k_is)
    (case vDIVIDERS2 => k_is)
    (case wDIVIDERS3 => k_is)
    (case vDIVIDERS3 => k_is)
    (case xDIVIDERS0 => k_is)
    (case xDIVIDERS1 => k_is)
    (case xDIVIDERS2 => k_is)
    (case aindent_of => k_is)
    (case lindent_of => k_is)
    (case cindent_of => k_is)
    (case kindent_of => k_is)
    (case ahead_of => k_is)
    (case lhead_of => k_is)
    (case chead_of => k_is)
    (case khead_of => k_is)
    (case alines_of => k_is)
    (case llines_of => k_is)
    (case clines_of => k_is)
    (case klines_of => k_is)
    (case abook_text => k_is)
    (case lbook_text => k_is)
    (case cbook_text => k_is)
    (case kbook_text => k_is)
    (case a_law_pool => k_is)
    (case l_law_pool => k_is)
    (case c_law_pool => k_is)
    (case k_law_pool => k_is)
    (case a_law_draw => k_is)
    (case l_law_draw => k_is)
    (case c_law_draw => k_is)
    (case k_law_draw => k_is)
    (case a_law_row => k_is)
    (case l_law_row => k_is)
    (case c_law_row => k_is)
    (case k_law_row => k_is)
    (case a_law_command => k_is)
    (case l_law_command => k_is)
    (case c_law_command => k_is)
    (case k_law_command => k_is)
    (case a_law_some_cells => k_is)
    (case l_law_some_cells => k_is)
    (case c_law_some_cells => k_is)
    (case k_law_some_cells => k_is)
    (case a_law_block => k_is)
    (case l_law_block => k_is)
    (case c_law_block => k_is)
    (case k_law_block => k_is)
    (case a_law_statement => k_is)
    (case l_law_statement => k_is)
    (case c_law_statement => k_is)
    (case k_law_statement => k_is)
    (case a_law_body => k_is)
    (case l_law_body => k_is)
    (case c_law_body => k_is)
    (case k_law_body => k_is)
    (case a_law_bodies => k_is)
    (case l_law_bodies => k_is)
    (case c_law_bodies => k_is)
    (case k_law_bodies => k_is)
    (case a_law_same => k_is)
    (case l_law_same => k_is)
    (case c_law_same => k_is)
    (case k_law_same => k_is)
    (case a_law_items => k_is)
    (case l_law_items => k_is)
    (case c_law_items => k_is)
    (case k_law_items => k_is)
    (case a_law_lines => k_is)
    (case l_law_lines => k_is)
    (case c_law_lines => k_is)
    (case k_law_lines => k_is)
    (case alaw => k_is)
    (case llaw => k_is)
    (case claw => k_is)
    (case klaw => k_is)
    (case y_int => k_is)
    (case y_len => k_is)
    (case y_list => k_is)
    (case y_tuple => k_is)
    (case y_range => k_is)
    (case y_isinstance => k_is)
    (case y_bool => k_is)
    (case y_str => k_is)
    (case y_dict => k_is)
    (case y_all => k_is)
    (case y_zip => k_is)
    (case y_enumerate => k_is)
    (case y_reversed => k_is)
