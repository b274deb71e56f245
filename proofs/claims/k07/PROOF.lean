import PyProof.Rows.All
import Wide.All
import OpenK.AllK
import Wide.FinOn
import HandS.ForMost
import HandS.Wide
import HandS.ForExc
import HandS.StrMore
import HandS.Flow
import HandS.Star
import HandS.IsInst
import HandS.ExcInit
import HandS.ExcField
import HandS.ExcIs
import HandS.OwnEq
import HandS.TupAny
import HandS.DictTup
import HandS.Walk
import HandS.More
import HandS.Nested
import KE.KSuper
import PyProof.InstNe
import HandS.ExcOwn
import HandS.Replace
import HandS.ReplaceLit
import HandS.RaiseMore
import PySem.Challenge.RW_handkept_k07_texts_of_any_value
/-! part A1 -/
set_option Elab.async false
set_option maxRecDepth 100000
namespace K7
open PySem L2
def top (i : Nat) : Stmt := PySem.Challenge.pw_handkept_k07_texts_of_any_value.main.body.getD i (.Pass ⟨0, 0, 0, 0⟩)
abbrev sPot : Stmt := top 25
abbrev sTake : Stmt := top 26
abbrev sOf : Stmt := top 27
/-! powers of any size that the model takes -/
def PowFits (i j : Int) : Prop := 0 ≤ j ∧ (Builtin.Int.intBits i : Int) * j ≤ 2 ^ 27
section
variable {X : Cx}
theorem op_powB : OpR X (binaryOp .Pow) (rI PowFits fun i j => .int (i ^ j.toNat)) := opI fun _ _ _ _ _ _ _ hc q => PyProof.Rows.pow_int hc.1 hc.2 q
end
section
variable {X : Cx}
theorem call_intI : CallR X (.type "int") (fun xs H Q => ∃ i, xs = [.int i] ∧ Q (.int i) H) := fun pins s σ H xs us Q I r ⟨i, e, q⟩ => call_int1 pins s σ H xs us Q I r (.inl ⟨i, e, q⟩)
end
theorem bits_of {x : Int} {n : Nat} (h : x.natAbs < 2 ^ n) (h0 : 0 < n) : Builtin.Int.intBits x ≤ n := by
  have y := PySem.Flt.log2_lt_of h0 h
  unfold Builtin.Int.intBits
  split <;> omega
/-- the built-in names that the defs ask for -/
structure Nat3 (mg : Str → Option Value) : Prop where
  int : mg "int" = none
  abs : mg "abs" = none
  len : mg "len" = none
/-! ### a pot of draws: own digits, a mixed number, how many were mixed -/
structure PotAt (H : Hp) (p : Addr) (a b c : Int) : Prop where
  at_ : H p = some (.lst [.int a, .int b, .int c])
  a0 : 0 ≤ a
  a1 : a.natAbs < 2 ^ 1000
  b0 : 0 ≤ b
  b1 : b < 2305843009213693952
  c0 : 0 ≤ c
def spTake : Sp := fun vs H Q _ => ∃ (p : Addr) (n a b c : Int), vs = [.ref p, .int n] ∧ PotAt H p a b c ∧ 0 < n ∧ n < 1000000 ∧ c < 1000000 ∧
  ∀ (d a' c' : Int) (H' : Hp), 0 ≤ d → d < n → PotAt H' p a' b c' → c' ≤ c + 1 → (∀ q o, H q = some o → q ≠ p → H' q = some o) → Q (.int d) H'
theorem five (k : Int) : ∃ z : Int, atI [V.int 2147483647, .int 2147483629, .int 2147483587, .int 2147483579, .int 2147483563] (k % 5) = some (.int z) ∧ 0 < z ∧ z < 2147483648 := by
  have h0 : 0 ≤ k % 5 := Int.emod_nonneg _ (by decide)
  have h1 : k % 5 < 5 := Int.emod_lt_of_pos _ (by decide)
  have h : k % 5 = 0 ∨ k % 5 = 1 ∨ k % 5 = 2 ∨ k % 5 = 3 ∨ k % 5 = 4 := by omega
  rcases h with e | e | e | e | e <;> rw [e]
  · exact ⟨_, rfl, by decide, by decide⟩
  · exact ⟨_, rfl, by decide, by decide⟩
  · exact ⟨_, rfl, by decide, by decide⟩
  · exact ⟨_, rfl, by decide, by decide⟩
  · exact ⟨_, rfl, by decide, by decide⟩
section
variable {P : Program} {w : World} {K : PySem.W.Frag} {mg : Str → Option Value} {base : Heap}
theorem scTake : FnScope ["_law_pot_here", "_law_upto", "_law_digit", "_law_prime", "_law_mixed"] ["_law_pot_here", "_law_upto"] (defScope sTake) := ⟨rfl, rfl, rfl, by decide +kernel, rfl, by decide +kernel, by decide +kernel⟩
theorem ok_take {f : Addr} {fd : FuncData} (F : Fun K "_law_take" "_law_take" sTake f fd) (T : Nat3 mg) : FnOk P w K mg base CX0 1 f fd ["_law_pot_here", "_law_upto"] spTake := by
  refine F.ok scTake (fun vs H Q E h => ?_) (fun cdv A outer s H vs Q E hr h => ?_)
  · obtain ⟨p, n, a, b, c, rfl, _⟩ := h
    rfl
  · obtain ⟨p, n, a, b, c, rfl, hP, n0, n1, c1, k⟩ := h
    have hu := hu_of hr
    obtain ⟨hp, a0, a1, b0, b1, c0⟩ := id hP
    refine ⟨_, (pss_cons (ps_if (pt_cmpR op_gt (pe_ix ix_list (pv 0) pe_int (fun _ _ => rfl)) pe_int (nomark _))
      (pss_cons (ps_set (i := 2) scTake.nd rfl (Or.inl rfl) (pe_op op_mod (pe_callTy call_intI (by rfl) T.int (by decide +kernel) (pa_cons (pe_ix ix_list (pv 0) pe_int (fun _ _ => rfl)) pa_nil)) (pv 1)))
      (pss_cons (ps_asg (pe_op op_fdiv (pe_ix ix_list (pv 0) pe_int (fun _ _ => rfl)) (pv 1)) (pg_sub (pv 0) pe_int set_list))
      (pss_one (ps_ret (pv 2))))) pss_nil)
      (pss_cons (ps_asg (pe_op op_add (pe_ix ix_list (pv 0) pe_int (fun _ _ => rfl)) pe_int) (pg_sub (pv 0) pe_int set_list))
      (pss_cons (ps_set (i := 3) scTake.nd rfl (Or.inl rfl) (pe_ix ix_list (pe_lst (pa_cons pe_int (pa_cons pe_int (pa_cons pe_int (pa_cons pe_int (pa_cons pe_int pa_nil)))))) (pe_op op_mod (pe_callTy call_intI (by rfl) T.int (by decide +kernel) (pa_cons (pe_ix ix_list (pv 0) pe_int (fun _ _ => rfl)) pa_nil)) pe_int) (fun _ _ => rfl)))
      (pss_cons (ps_set (i := 4) scTake.nd rfl (Or.inl rfl) (pe_op op_mod (pe_callTy call_intI (by rfl) T.int (by decide +kernel) (pa_cons (pe_op op_powB (pe_callTy call_intI (by rfl) T.int (by decide +kernel) (pa_cons (pe_op op_add (pe_op op_add (pe_ix ix_list (pv 0) pe_int (fun _ _ => rfl)) (pe_op op_mul (pe_op op_mul pe_int (pe_ix ix_list (pv 0) pe_int (fun _ _ => rfl))) (pe_ix ix_list (pv 0) pe_int (fun _ _ => rfl)))) pe_int) pa_nil)) pe_int) pa_nil)) (pv 3)))
      (pss_cons (ps_set (i := 4) scTake.nd rfl (Or.inl rfl) (pe_op op_mod (pe_callTy call_intI (by rfl) T.int (by decide +kernel) (pa_cons (pe_op op_mul (pv 4) (pe_op op_add (pe_op op_mod (pe_callTy call_intI (by rfl) T.int (by decide +kernel) (pa_cons (pv 4) pa_nil)) pe_int) (pe_op op_mul pe_int (pe_ix ix_list (pv 0) pe_int (fun _ _ => rfl))))) pa_nil)) pe_int))
      (pss_one (ps_ret (pe_op op_mod (pe_callTy call_intI (by rfl) T.int (by decide +kernel) (pa_cons (pe_op op_fdiv (pv 4) pe_int) pa_nil)) (pv 1))))))))), ?_⟩
    refine ⟨_, rfl, p, _, 0, _, rfl, rfl, SqL.of hp, rfl, _, _, rfl, rfl, _, rfl, ?_⟩
    refine ite2 (fun z => ?_) (fun z => ?_)
    · have z := of_decide_eq_true z
      have d0 : 0 ≤ a % n := Int.emod_nonneg _ (by omega)
      have d1 : a % n < n := Int.emod_lt_of_pos _ n0
      have e0 : 0 ≤ a / n := Int.ediv_nonneg a0 (by omega)
      have e1 : a / n ≤ a := Int.ediv_le_self _ a0
      -- own digits: the last one goes
      refine ⟨_, rfl, p, _, 0, _, rfl, rfl, SqL.of hp, rfl, _, rfl, _, rfl, _, _, rfl, rfl, n0, ?_⟩
      refine ⟨_, rfl, p, _, 0, _, rfl, rfl, SqL.of hp, rfl, _, rfl, _, _, rfl, rfl, ⟨n0, by omega⟩, _, rfl, p, _, 0, 0, rfl, rfl, hp, rfl, _, rfl, ?_⟩
      exact k _ (a / n) c _ d0 d1 ⟨upd_same, e0, by omega, b0, b1, c0⟩ (by omega) fun q o e hq => by rw [upd_ne hq]; exact e
    · -- a mixed number
      refine ⟨_, rfl, p, _, 2, _, rfl, rfl, SqL.of hp, rfl, _, _, rfl, rfl, _, rfl, p, _, 2, 2, rfl, rfl, hp, rfl, ?_⟩
      generalize hH1 : upd H p _ = H1
      have hp1 : H1 p = some (.lst [.int a, .int b, .int (c + 1)]) := by rw [← hH1]; exact upd_same
      have s1 : ∀ q o, H q = some o → q ≠ p → H1 q = some o := fun q o e hq => by rw [← hH1, upd_ne hq]; exact e
      refine ⟨(by show 5 ≤ sizeLine; decide), fun l hl => ?_⟩
      generalize hH2 : upd H1 l _ = H2
      have npl : p ≠ l := ne_of_none hp1 hl
      have hp2 : H2 p = some (.lst [.int a, .int b, .int (c + 1)]) := by rw [← hH2, upd_ne npl]; exact hp1
      have s2 : ∀ q o, H q = some o → q ≠ p → H2 q = some o := fun q o e hq => by rw [← hH2, upd_ne (ne_of_none (s1 q o e hq) hl)]; exact s1 q o e hq
      have hl2 : H2 l = some (.lst [V.int 2147483647, .int 2147483629, .int 2147483587, .int 2147483579, .int 2147483563]) := by rw [← hH2]; exact upd_same
      obtain ⟨z5, h5, z0, z1⟩ := five (c + 1)
      refine ⟨_, rfl, p, _, 2, _, rfl, rfl, SqL.of hp2, rfl, _, rfl, _, _, rfl, rfl, (by show (0 : Int) < 5; decide), l, _, _, _, rfl, rfl, SqL.of hl2, h5, ?_⟩
      have q0 : 0 ≤ (c + 1) * (c + 1) := Int.mul_nonneg (by omega) (by omega)
      have q1 : (c + 1) * (c + 1) ≤ 1000000 * 1000000 := Int.mul_le_mul (by omega) (by omega) (by omega) (by omega)
      have q2 : 99041 * (c + 1) * (c + 1) = 99041 * ((c + 1) * (c + 1)) := Int.mul_assoc _ _ _
      refine ⟨_, rfl, p, _, 1, _, rfl, rfl, SqL.of hp2, rfl, _, rfl, p, _, 2, _, rfl, rfl, SqL.of hp2, rfl, _, _, rfl, rfl, .inl ⟨by omega, by omega⟩, _, rfl, p, _, 2, _, rfl, rfl, SqL.of hp2, rfl, _, _, rfl, rfl, .inr ⟨by omega, by omega⟩, _, _, rfl, rfl, _, _, rfl, rfl, _, rfl, _, _, rfl, rfl, ⟨by decide, ?_⟩, _, rfl, _, rfl, _, _, rfl, rfl, z0, ?_⟩
      · have hb : Builtin.Int.intBits (b + 99041 * (c + 1) * (c + 1) + 37) ≤ 63 := bits_of (by rw [q2]; omega) (by decide)
        omega
      generalize (b + 99041 * (c + 1) * (c + 1) + 37) ^ (3 : Int).toNat = big
      have m0 : 0 ≤ big % z5 := Int.emod_nonneg _ (by omega)
      have m1 : big % z5 < z5 := Int.emod_lt_of_pos _ z0
      generalize hm : big % z5 = m at m0 m1 ⊢
      have r0 : 0 ≤ m % 10007 := Int.emod_nonneg _ (by decide)
      have r1 : m % 10007 < 10007 := Int.emod_lt_of_pos _ (by decide)
      refine ⟨_, rfl, _, rfl, _, rfl, _, _, rfl, rfl, (by show (0 : Int) < 10007; decide), _, rfl, p, _, 2, _, rfl, rfl, SqL.of hp2, rfl, _, _, rfl, rfl, .inl ⟨by omega, by omega⟩, _, _, rfl, rfl, _, _, rfl, rfl, .inl ⟨by omega, by omega⟩, _, rfl, _, _, rfl, rfl, (by show (0 : Int) < 2305843009213693907; decide), ?_⟩
      generalize m * (m % 10007 + 83 * (c + 1)) % 2305843009213693907 = y
      refine ⟨_, rfl, _, _, rfl, rfl, ⟨by decide, by decide⟩, _, rfl, _, rfl, _, _, rfl, rfl, n0, ?_⟩
      exact k _ a (c + 1) _ (Int.emod_nonneg _ (by omega)) (Int.emod_lt_of_pos _ n0) ⟨hp2, a0, a1, b0, b1, by omega⟩ (by omega) s2
end
end K7
/-! part A2 -/
set_option Elab.async false
set_option maxRecDepth 100000
namespace K7
open PySem L2
section
variable {X : Cx}
theorem call_intB : CallR X (.type "int") (fun xs H Q => ∃ k, xs = [.bl k] ∧ Q (.int (if k then 1 else 0)) H) := fun pins s σ H xs us Q I r ⟨i, e, q⟩ => call_int1 pins s σ H xs us Q I r (.inr ⟨i, e, q⟩)
end
/-- an item of a list of its own, some item -/
def spOf : Sp := fun vs H Q _ => ∃ (p m : Addr) (xs : List V) (a b c : Int), vs = [.ref p, .ref m] ∧ PotAt H p a b c ∧ H m = some (.lst xs) ∧ m ≠ p ∧ 0 < xs.length ∧ xs.length < 1000000 ∧ c < 1000000 ∧
  ∀ (v : V) (a' c' : Int) (H' : Hp), v ∈ xs → PotAt H' p a' b c' → c' ≤ c + 1 → (∀ q o, H q = some o → q ≠ p → H' q = some o) → Q v H'
/-- the draws of the k-th cell -/
def spPot (K : PySem.W.Frag) : Sp := fun vs H Q _ => ∃ (s : Addr) (ns : List Int) (k : Int), vs = [.ref s, .int k] ∧ SqL K H s (ns.map V.int) ∧ ns.length ≤ 63 ∧ 0 ≤ k ∧ k < 100 ∧
  ∀ (p : Addr) (a b : Int) (H' : Hp), H p = none → PotAt H' p a b 0 → Same H H' → Q (.ref p) H'
structure Draws (mg : Str → Option Value) (K : PySem.W.Frag) (fP fT fO : Addr) (fdP fdT fdO : FuncData) : Prop where
  pot : mg "_law_pot" = some (.ref fP)
  take : mg "_law_take" = some (.ref fT)
  of_ : mg "_law_of" = some (.ref fO)
  FP : Fun K "_law_pot" "_law_pot" sPot fP fdP
  FT : Fun K "_law_take" "_law_take" sTake fT fdT
  FO : Fun K "_law_of" "_law_of" sOf fO fdO
  bP : Binds K fdP ["_law_script", "_law_k"] []
  bT : Binds K fdT ["_law_pot_here", "_law_upto"] []
  bO : Binds K fdO ["_law_pot_here", "_law_some"] []
  nat : Nat3 mg
theorem b01 (k : Bool) : -(2 ^ 64) < (if k = true then (1 : Int) else 0) ∧ (if k = true then (1 : Int) else 0) < 2 ^ 64 := by cases k <;> decide
set_option exponentiation.threshold 2000 in
theorem pot_own (x : Int) (k : Bool) : 0 ≤ x % (((10 : Int) ^ (60 : Int).toNat) ^ (5 : Int).toNat) * (if k = true then 1 else 0) ∧ (x % (((10 : Int) ^ (60 : Int).toNat) ^ (5 : Int).toNat) * (if k = true then 1 else 0)).natAbs < 2 ^ 1000 := by
  have o0 : 0 ≤ x % (((10 : Int) ^ (60 : Int).toNat) ^ (5 : Int).toNat) := Int.emod_nonneg _ (by decide)
  have o1 : x % (((10 : Int) ^ (60 : Int).toNat) ^ (5 : Int).toNat) < ((10 : Int) ^ (60 : Int).toNat) ^ (5 : Int).toNat := Int.emod_lt_of_pos _ (by decide)
  have o2 : (((10 : Int) ^ (60 : Int).toNat) ^ (5 : Int).toNat).natAbs < 2 ^ 1000 := by decide
  generalize (((10 : Int) ^ (60 : Int).toNat) ^ (5 : Int).toNat) = M at *
  generalize x % M = own at *
  cases k
  · simp
  · simp only [if_true, Int.mul_one]
    exact ⟨o0, by omega⟩
theorem atI_in {xs : List V} {d : Int} (h0 : 0 ≤ d) (h1 : d < xs.length) : ∃ v, atI xs d = some v ∧ v ∈ xs := by
  obtain ⟨n, rfl⟩ := Int.eq_ofNat_of_zero_le h0
  have hn : n < xs.length := by omega
  exact ⟨xs[n], atI_nat (by rw [List.getElem?_eq_getElem hn]), List.getElem_mem hn⟩
section
variable {P : Program} {w : World} {K : PySem.W.Frag} {mg : Str → Option Value} {base : Heap}
theorem scOf : FnScope ["_law_pot_here", "_law_some"] ["_law_pot_here", "_law_some"] (defScope sOf) := ⟨rfl, rfl, rfl, by decide +kernel, rfl, by decide +kernel, by decide +kernel⟩
theorem ok_of {fP fT f : Addr} {fdP fdT fd : FuncData} (D : Draws mg K fP fT f fdP fdT fd) : FnOk P w K mg base CX0 2 f fd ["_law_pot_here", "_law_some"] spOf := by
  have GT : FnOk P w K mg base CX0 1 fT fdT ["_law_pot_here", "_law_upto"] spTake := ok_take D.FT D.nat
  refine D.FO.ok scOf (fun vs H Q E h => ?_) (fun cdv A outer s H vs Q E hr h => ?_)
  · obtain ⟨p, m, xs, a, b, c, rfl, _⟩ := h
    rfl
  · obtain ⟨p, m, xs, a, b, c, rfl, hP, hm, mp, l0, l1, c1, k⟩ := h
    refine ⟨_, (pss_one (ps_ret (pe_ix ix_list (pv 1) (pe_call GT hr rfl D.take D.FT.kp D.bT .nil pass0 (pa_cons (pv 0) (pa_cons (pe_callB call_len_seq (by rfl) D.nat.len (PySem.boot_len) (pa_cons (pv 1) pa_nil)) pa_nil))) (fun _ _ => rfl)))), ?_⟩
    refine ⟨_, rfl, _, rfl, _, rfl, m, _, rfl, .inl (SqL.of hm), p, _, a, b, c, rfl, hP, (by omega), (by omega), c1, fun d a' c' H' d0 d1 hP' hc hk => ?_⟩
    obtain ⟨v, hv, hi⟩ := atI_in d0 d1
    exact ⟨m, xs, d, v, rfl, rfl, SqL.of (hk m _ hm mp), hv, k v a' c' H' hi hP' hc hk⟩
theorem scPot : FnScope ["_law_script", "_law_k", "_law_cell", "_law_own", "_law_mixed"] ["_law_script", "_law_k"] (defScope sPot) := ⟨rfl, rfl, rfl, by decide +kernel, rfl, by decide +kernel, by decide +kernel⟩
theorem ok_pot {fP fT fO : Addr} {fdP fdT fdO : FuncData} (D : Draws mg K fP fT fO fdP fdT fdO) : FnOk P w K mg base CX0 1 fP fdP ["_law_script", "_law_k"] (spPot K) := by
  have T := D.nat
  refine D.FP.ok scPot (fun vs H Q E h => ?_) (fun cdv A outer s H vs Q E hr h => ?_)
  · obtain ⟨s, ns, k, rfl, _⟩ := h
    rfl
  · obtain ⟨s, ns, k, rfl, hS, hl, k0, k1, q⟩ := h
    refine ⟨_, (pss_cons (ps_set (i := 2) scPot.nd rfl (Or.inl rfl) (pe_ifExp (pt_cmpR op_lt (pv 1) (pe_callB call_len_seq (by rfl) T.len (PySem.boot_len) (pa_cons (pv 0) pa_nil)) (nomark _)) (pe_ix ix_list (pv 0) (pv 1) (fun _ _ => rfl)) (pe_op op_add (pe_op op_mul pe_int (pv 1)) pe_int)))
      (pss_cons (ps_set (i := 3) scPot.nd rfl (Or.inl rfl) (pe_op op_mul (pe_op op_mod (pe_callTy call_intI (by rfl) T.int (by decide +kernel) (pa_cons (pe_callB call_abs (by rfl) T.abs (by decide +kernel) (pa_cons (pv 2) pa_nil)) pa_nil)) (pe_op op_powB (pe_op op_powB pe_int pe_int) pe_int)) (pe_callTy call_intB (by rfl) T.int (by decide +kernel) (pa_cons (pe_cmpR op_ge (pe_callB call_abs (by rfl) T.abs (by decide +kernel) (pa_cons (pv 2) pa_nil)) (pe_op op_powB pe_int pe_int) (nomark _)) pa_nil))))
      (pss_cons (ps_set (i := 4) scPot.nd rfl (Or.inl rfl) (pe_op op_add (pe_op op_add (pe_op op_mul (pe_op op_mod (pe_callTy call_intI (by rfl) T.int (by decide +kernel) (pa_cons (pv 2) pa_nil)) pe_int) pe_int) (pe_op op_mul (pe_op op_mul pe_int (pv 1)) (pv 1))) pe_int))
      (pss_one (ps_ret (pe_lst (pa_cons (pv 3) (pa_cons (pe_op op_mod (pe_callTy call_intI (by rfl) T.int (by decide +kernel) (pa_cons (pv 4) pa_nil)) pe_int) (pa_cons pe_int pa_nil))))))))), ?_⟩
    refine ⟨_, rfl, _, rfl, s, _, rfl, .inl hS, _, _, rfl, rfl, _, rfl, ?_⟩
    have b10 : Builtin.Int.intBits 10 ≤ 4 := bits_of (by decide) (by decide)
    have b60 : Builtin.Int.intBits ((10 : Int) ^ (60 : Int).toNat) ≤ 200 := bits_of (by decide) (by decide)
    refine ite2 (fun z => ?_) (fun z => ?_)
    all_goals first
      | (have z1 := of_decide_eq_true z
         obtain ⟨v, hv, hi⟩ := atI_in (xs := ns.map V.int) k0 (by simpa using z1)
         obtain ⟨cell, _, rfl⟩ := List.mem_map.mp hi
         refine ⟨_, rfl, _, rfl, s, _, _, _, rfl, rfl, hS, hv, ?_⟩)
      | (refine ⟨_, rfl, _, _, rfl, rfl, .inl ⟨by decide, by decide⟩, _, _, rfl, rfl, ?_⟩
         generalize 59 * k + 29 = cell)
    all_goals
      refine ⟨_, rfl, _, rfl, _, rfl, _, _, rfl, rfl, ⟨by decide, by omega⟩, _, _, rfl, rfl, ⟨by decide, by omega⟩, _, _, rfl, rfl, (by show (0 : Int) < ((10 : Int) ^ (60 : Int).toNat) ^ (5 : Int).toNat; decide), ?_⟩
      refine ⟨_, rfl, _, rfl, _, _, rfl, rfl, ⟨by decide, by omega⟩, _, _, rfl, rfl, _, rfl, _, _, rfl, rfl, .inr (b01 _), ?_⟩
      refine ⟨_, rfl, _, rfl, _, _, rfl, rfl, (by show (0 : Int) < 2305843009213693951; decide), _, _, rfl, rfl, .inr ⟨by decide, by decide⟩, _, rfl, _, _, rfl, rfl, .inl ⟨by decide, by decide⟩, _, rfl, _, _, rfl, rfl, .inr ⟨by omega, by omega⟩, _, _, rfl, rfl, _, _, rfl, rfl, ?_⟩
      refine ⟨_, rfl, _, rfl, _, rfl, _, _, rfl, rfl, (by show (0 : Int) < 2305843009213693921; decide), (by show 3 ≤ sizeLine; decide), fun p hp => ?_⟩
      exact q p _ _ _ hp ⟨upd_same, (pot_own _ _).1, (pot_own _ _).2, Int.emod_nonneg _ (by decide), Int.lt_trans (Int.emod_lt_of_pos _ (by decide)) (by decide), by omega⟩ fun b o e => by rw [upd_ne (ne_of_none e hp)]; exact e
end
end K7
/-! part B1 -/
set_option Elab.async false
set_option maxRecDepth 100000
/-! The mirror of the reader of programs: lines with how many blanks stand ahead, parted into words. -/
namespace Rdr
open PySem L2
/-- what a step comes to: a value and the state, or the number of the wrong line -/
inductive Res (A : Type) where
  | ok (a : A)
  | bad (n : Int)
def Res.bind {A B : Type} (r : Res A) (f : A → Res B) : Res B := match r with
  | .ok a => f a
  | .bad n => .bad n
def Res.isBad {A : Type} (r : Res A) : Option Int := match r with
  | .ok _ => none
  | .bad n => some n
structure Rd where
  ls : List (Int × List Str)
  pos : Nat
  kinds : List (Str × Str × List Str)
  chains : List (Str × List Str)
  fields : List (Str × List Str)
  labels : List Str
  parts : Nat
  cells : List Str
  worths : List Int
  near : List Str
def letter (c : Nat) : Bool := decide (97 ≤ c) && decide (c ≤ 122)
def word (s : Str) : Bool := decide (1 ≤ s.length) && decide (s.length ≤ 8) && s.cps.toList.all letter
def parted (l : Str) : Int × List Str := ((l.length : Int) - ((Txt.lstripChars l " ").length : Int), Txt.split (Txt.lstripChars l " ") " ")
def start (t : Str) : Rd := { ls := (Txt.split t "\n").map parted, pos := 0, kinds := [], chains := [], fields := [], labels := [], parts := 0, cells := [], worths := [], near := [] }
def Rd.wordsAt (S : Rd) (depth : Int) : List Str := match S.ls[S.pos]? with
  | none => []
  | some (b, ws) => if b = 2 * depth then ws else []
def Rd.need (S : Rd) (b : Bool) (r : Res A) : Res A := if b then r else .bad ((S.pos : Int) + 1)
def Rd.on (S : Rd) : Rd := { S with pos := S.pos + 1 }
def item (ws : List Str) (i : Nat) : Str := ws.getD i ""
/-- fields below a kind -/
def fieldsM : Nat → Rd → List Str → Res (Rd × List Str)
  | 0, S, acc => .ok (S, acc)
  | n + 1, S, acc =>
    let ws := S.wordsAt 1
    if ws = [] then .ok (S, acc) else
      S.need (decide (acc.length < 2) && decide (ws.length = 2) && decide (item ws 0 = "field")) <|
      S.need (word (item ws 1) && decide (item ws 1 ≠ "key") && !acc.contains (item ws 1)) <|
      fieldsM n S.on (acc ++ [item ws 1])
def chainOf (S : Rd) (k : Str) : List Str := (S.chains.lookup k).getD []
def kindM (S : Rd) (ws : List Str) : Res Rd :=
  S.need (decide (S.kinds.length < 4) && (decide (ws.length = 2) || decide (ws.length = 4))) <|
  S.need (word (item ws 1) && (S.chains.lookup (item ws 1)).isNone) <|
  (if ws.length = 4 then
    S.need (decide (item ws 2 = "in") && (S.chains.lookup (item ws 3)).isSome) <|
    S.need (decide ((chainOf S (item ws 3)).length < 3)) <| .ok (item ws 3)
  else .ok "").bind fun outer =>
  (fieldsM (S.ls.length - S.pos) S.on []).bind fun (S1, fs) =>
  .ok { S1 with kinds := S1.kinds ++ [(item ws 1, outer, fs)], chains := S1.chains ++ [(item ws 1, chainOf S1 outer ++ [item ws 1])], fields := S1.fields ++ [(item ws 1, ("key" : Str) :: fs)] }
def kindsM : Nat → Rd → Res Rd
  | 0, S => .ok S
  | n + 1, S =>
    let ws := S.wordsAt 0
    if ws.take 1 = [("kind" : Str)] then (kindM S ws).bind (kindsM n) else .ok S
def cellM (S : Rd) (ws : List Str) : Res Rd :=
  S.need (decide (S.cells.length < 2) && decide (ws.length = 3)) <|
  S.need (word (item ws 1) && !S.cells.contains (item ws 1) && (decide (item ws 2 = "2") || decide (item ws 2 = "3"))) <|
  .ok { S with cells := S.cells ++ [item ws 1], worths := S.worths ++ [if item ws 2 = "2" then 2 else 3], pos := S.pos + 1 }
def cellsM : Nat → Rd → Res Rd
  | 0, S => .ok S
  | n + 1, S =>
    let ws := S.wordsAt 1
    if ws.take 1 = [("cell" : Str)] then (cellM S ws).bind (cellsM n) else .ok S
def digits (w : Int) : List Str := if w = 2 then ["0", "1"] else ["0", "1", "2"]
/-- the worth of a cell -/
def worthM (S : Rd) (c d : Str) (r : Res A) : Res A :=
  S.need (S.cells.contains c) <| S.need ((digits (S.worths.getD (S.cells.findIdx (· = c)) 0)).contains d) r
/-- a REF -/
def refM (S : Rd) (t : Str) (r : Res A) : Res A :=
  let p := Txt.partition t "."
  S.need (S.near.contains p.1 && ((S.fields.lookup p.1).getD []).contains p.2.2) r
def tokensM (S : Rd) : List Str → Res A → Res A
  | [], r => r
  | t :: ts, r => if word t then tokensM S ts r else refM S t (tokensM S ts r)
def writeM (S : Rd) (label : Str) (ts : List Str) : Res Rd :=
  S.need (word label && !S.labels.contains label && decide (ts.length ≤ 6)) <|
  tokensM S ts (.ok { S with labels := S.labels ++ [label] })
def simpleM (S : Rd) (ws : List Str) : Res Rd :=
  (if item ws 0 = "line" then S.need (decide (2 < ws.length)) (writeM S (item ws 1) (ws.drop 2))
  else if item ws 0 = "head" then S.need (decide (3 < ws.length)) <| S.need (decide (item ws 2 = "-") || S.near.contains (item ws 2)) (writeM S (item ws 1) (ws.drop 3))
  else S.need (decide (item ws 0 = "set") && decide (ws.length = 3)) <| worthM S (item ws 1) (item ws 2) (.ok S)).bind fun S => .ok S.on
/-- a block: the statements, one by one, by stm -/
def blockM (stm : Rd → List Str → Res Rd) (depth : Int) : Nat → Nat → Rd → Res Rd
  | 0, _, S => .ok S
  | n + 1, many, S =>
    let ws := S.wordsAt depth
    if ws = [] then S.need (decide (0 < many)) (.ok S) else
      S.need (decide (many < 6)) <| (stm S ws).bind (blockM stm depth n (many + 1))
def ifM (block : Rd → Res Rd) (S : Rd) (ws : List Str) (depth : Int) : Res Rd :=
  S.need (decide (ws.length = 4)) <|
  (if item ws 2 = "=" then worthM S (item ws 1) (item ws 3) (.ok ())
  else S.need (decide (item ws 2 = "is") && word (item ws 3)) (refM S (item ws 1) (.ok ()))).bind fun _ =>
  (block S.on).bind fun S1 => if S1.wordsAt depth = [("else" : Str)] then block S1.on else .ok S1
/-- a statement with so many ifs left -/
def stmM : Nat → Int → Rd → List Str → Res Rd
  | 0, _, S, ws => if item ws 0 = "if" then .bad ((S.pos : Int) + 1) else simpleM S ws
  | j + 1, depth, S, ws => if item ws 0 = "if" then ifM (fun S => blockM (stmM j (depth + 1)) (depth + 1) (S.ls.length - S.pos + 1) 0 S) S ws depth else simpleM S ws
def blockOf (j : Nat) (depth : Int) (S : Rd) : Res Rd := blockM (stmM j depth) depth (S.ls.length - S.pos + 1) 0 S
def placesM : List (Str × Str) → Rd → Res Rd
  | [], S => .ok S
  | (p, k) :: r, S =>
    let S := { S with near := chainOf S k }
    if S.wordsAt 1 = (if k = "" then [p] else [p, k]) then (blockOf 2 2 S.on).bind (placesM r) else placesM r S
def places (S : Rd) : List (Str × Str) := [(("begin" : Str), ("" : Str))] ++ S.kinds.flatMap (fun k => [(("open" : Str), k.1), (("close" : Str), k.1)]) ++ [(("end" : Str), ("" : Str))]
def partM (S : Rd) : Res Rd :=
  (cellsM (S.ls.length - S.pos + 1) { S with cells := [], worths := [] }).bind fun S =>
  (placesM (places S) S).bind fun S => .ok { S with parts := S.parts + 1 }
def partsM : Nat → Rd → Res Rd
  | 0, S => .ok S
  | n + 1, S => if S.wordsAt 0 = [("pass" : Str)] ∧ S.parts < 2 then (partM S.on).bind (partsM n) else .ok S
def readM (S : Rd) : Res Rd :=
  (kindsM (S.ls.length + 1) S).bind fun S =>
  S.need (decide (0 < S.kinds.length)) <|
  (partsM 3 S).bind fun S =>
  S.need (decide (0 < S.parts) && decide (S.pos = S.ls.length)) (.ok S)
def good : Str := "kind k\npass\n  open k\n    line a k.key"
example : (readM (start good)).isBad = none := by decide +kernel
example : (readM (start "")).isBad = some 1 := by decide +kernel
example : (readM (start "kind k")).isBad = some 2 := by decide +kernel
example : (readM (start (good ++ " "))).isBad = some 4 := by decide +kernel
example : (readM (start "kind k\npass\n  open")).isBad = some 3 := by decide +kernel
end Rdr
/-! part B2 -/
set_option Elab.async false
set_option linter.all false
set_option maxRecDepth 100000
namespace Rdr
open PySem L2
abbrev wlist (ws : List Str) : List V := ws.map V.str
abbrev ilist (ws : List Int) : List V := ws.map V.int
def rdF (l a k c f lb p cl w n : V) : List (Str × V) := [("lines", l), ("at", a), ("kinds", k), ("chains", c), ("fields", f), ("labels", lb), ("parts", p), ("cells", cl), ("worths", w), ("near", n)]
structure Adr where
  ln : Addr
  kl : Addr
  cd : Addr
  fd : Addr
  ll : Addr
  pl : Addr
  cl : Addr
  wl : Addr
  nr : Addr
  xt : List Addr := []
def Adr.own (A : Adr) (r : Addr) : List Addr := [r, A.kl, A.cd, A.fd, A.ll, A.pl, A.cl, A.wl]
def Adr.all (A : Adr) (r : Addr) : List Addr := A.own r ++ A.xt
def Adr.flds (A : Adr) (n : Nat) : List (Str × V) := rdF (.ref A.ln) (.int n) (.ref A.kl) (.ref A.cd) (.ref A.fd) (.ref A.ll) (.ref A.pl) (.ref A.cl) (.ref A.wl) (.ref A.nr)
/-- o stands at a, which no method changes -/
def Fix (H : Hp) (M : List Addr) (a : Addr) (o : HO) : Prop := H a = some o ∧ a ∉ M
theorem Fix.upd {H : Hp} {M : List Addr} {a x : Addr} {o u : HO} (h : Fix H M a o) (hx : x ∈ M) : Fix (L2.upd H x u) M a o := ⟨by rw [upd_ne (fun e => h.2 (by rw [e]; exact hx))]; exact h.1, h.2⟩
/-- all that is tracked and lies out of M is as it was; what was tracked is tracked -/
structure But (M : List Addr) (H H' : Hp) : Prop where
  keep : ∀ b o, H b = some o → b ∉ M → H' b = some o
  free : ∀ b, H' b = none → H b = none
theorem But.refl {M : List Addr} {H : Hp} : But M H H := ⟨fun _ _ h _ => h, fun _ h => h⟩
theorem But.trans {M : List Addr} {H H1 H2 : Hp} (a : But M H H1) (b : But M H1 H2) : But M H H2 := ⟨fun c o h n => b.keep c o (a.keep c o h n) n, fun c h => a.free c (b.free c h)⟩
theorem But.of {M : List Addr} {H H' : Hp} (k : Same H H') : But M H H' := ⟨fun b o h _ => k b o h, fun b h => k.free h⟩
theorem But.upd {M : List Addr} {H : Hp} {x : Addr} {o : HO} (hx : x ∈ M) : But M H (L2.upd H x o) := ⟨fun b _ h n => by rw [upd_ne (fun e => n (by rw [e]; exact hx))]; exact h, fun b h => by
  by_cases e : b = x
  · rw [e, upd_same] at h; cases h
  · rwa [upd_ne e] at h⟩
theorem Fix.but {H H' : Hp} {M : List Addr} {a : Addr} {o : HO} (h : Fix H M a o) (k : But M H H') : Fix H' M a o := ⟨k.keep _ _ h.1 h.2, h.2⟩
theorem Same.new {H : Hp} {p : Addr} {o : HO} (h : H p = none) : Same H (L2.upd H p o) := fun b _ e => by rw [upd_ne (ne_of_none e h)]; exact e
/-- M and new places alone -/
theorem Fix.grow {H : Hp} {M N : List Addr} {a : Addr} {o : HO} (h : Fix H M a o) (k : ∀ b ∈ N, b ∈ M ∨ H b = none) : Fix H N a o := ⟨h.1, fun m => (k a m).elim h.2 fun z => by rw [h.1] at z; cases z⟩
theorem Pr.mono {α β : Type} {F G : α → β → Prop} (f : ∀ a b, F a b → G a b) : ∀ {xs : List α} {ys : List β}, Paired F xs ys → Paired G xs ys
  | _, _, .nil => .nil
  | _, _, .cons h t => .cons (f _ _ h) (Pr.mono f t)
theorem Pr.snoc {α β : Type} {F : α → β → Prop} {a : α} {b : β} (h : F a b) : ∀ {xs : List α} {ys : List β}, Paired F xs ys → Paired F (xs ++ [a]) (ys ++ [b])
  | _, _, .nil => .cons h .nil
  | _, _, .cons g t => .cons g (Pr.snoc h t)
theorem Pr.at {α β : Type} {F : α → β → Prop} : ∀ {xs : List α} {ys : List β} {i : Nat} {b : β}, Paired F xs ys → ys[i]? = some b → ∃ a, xs[i]? = some a ∧ F a b
  | _, _, i, b, .nil, e => by cases e
  | _, _, 0, b, .cons g t, e => ⟨_, rfl, by cases e; exact g⟩
  | _, _, i + 1, b, .cons g t, e => Pr.at (i := i) t e
def LineAt (H : Hp) (M : List Addr) (v : V) (l : Int × List Str) : Prop := ∃ t a, v = .ref t ∧ Fix H M t (.tup [.int l.1, .ref a]) ∧ Fix H M a (.lst (wlist l.2))
def KindAt (H : Hp) (M : List Addr) (v : V) (k : Str × Str × List Str) : Prop := ∃ t f, v = .ref t ∧ Fix H M t (.tup [.str k.1, .str k.2.1, .ref f]) ∧ Fix H M f (.tup (wlist k.2.2))
def ChAt (H : Hp) (M : List Addr) (v : Key × V) (k : Str × List Str) : Prop := v.1 = .inr k.1 ∧ ∃ t, v.2 = .ref t ∧ Fix H M t (.tup (wlist k.2))
def FdAt (H : Hp) (M : List Addr) (v : Key × V) (k : Str × List Str) : Prop := v.1 = .inr k.1 ∧ ∃ t, v.2 = .ref t ∧ Fix H M t (.lst (wlist k.2))
structure RdAt (C : Addr) (H : Hp) (r : Addr) (A : Adr) (S : Rd) : Prop where
  ob : ∃ dx, H r = some (.ins C dx (A.flds S.pos))
  nd : (A.own r).Nodup
  ln : ∃ vs, Fix H (A.all r) A.ln (.lst vs) ∧ Paired (LineAt H (A.all r)) vs S.ls
  kl : ∃ vs, H A.kl = some (.lst vs) ∧ Paired (KindAt H (A.all r)) vs S.kinds
  cd : ∃ vs, H A.cd = some (.dK vs) ∧ Paired (ChAt H (A.all r)) vs S.chains
  fd : ∃ vs, H A.fd = some (.dK vs) ∧ Paired (FdAt H (A.all r)) vs S.fields
  ll : H A.ll = some (.lst (wlist S.labels))
  pl : ∃ vs, H A.pl = some (.lst vs) ∧ vs.length = S.parts
  cl : H A.cl = some (.lst (wlist S.cells))
  wl : H A.wl = some (.lst (ilist S.worths))
  nr : Fix H (A.all r) A.nr (.tup (wlist S.near))
  xt : ∀ x ∈ A.xt, H x ≠ none ∧ x ∉ A.own r
/-- each kind of data, from a heap to another one -/
structure Carry (H H' : Hp) (M N : List Addr) : Prop where
  fx : ∀ a o, Fix H M a o → Fix H' N a o
theorem Carry.ln {H H' : Hp} {M N : List Addr} (c : Carry H H' M N) {v : V} {l : Int × List Str} (h : LineAt H M v l) : LineAt H' N v l := by
  obtain ⟨t, a, e, f, g⟩ := h
  exact ⟨t, a, e, c.fx _ _ f, c.fx _ _ g⟩
theorem Carry.kl {H H' : Hp} {M N : List Addr} (c : Carry H H' M N) {v : V} {l : Str × Str × List Str} (h : KindAt H M v l) : KindAt H' N v l := by
  obtain ⟨t, a, e, f, g⟩ := h
  exact ⟨t, a, e, c.fx _ _ f, c.fx _ _ g⟩
theorem Carry.cd {H H' : Hp} {M N : List Addr} (c : Carry H H' M N) {v : Key × V} {l : Str × List Str} (h : ChAt H M v l) : ChAt H' N v l := by
  obtain ⟨e, t, z, f⟩ := h
  exact ⟨e, t, z, c.fx _ _ f⟩
theorem Carry.fd {H H' : Hp} {M N : List Addr} (c : Carry H H' M N) {v : Key × V} {l : Str × List Str} (h : FdAt H M v l) : FdAt H' N v l := by
  obtain ⟨e, t, z, f⟩ := h
  exact ⟨e, t, z, c.fx _ _ f⟩
theorem Carry.upd {H : Hp} {M : List Addr} {x : Addr} {u : HO} (hx : x ∈ M) : Carry H (L2.upd H x u) M M := ⟨fun _ _ h => h.upd hx⟩
theorem Carry.same {H H' : Hp} {M : List Addr} (k : Same H H') : Carry H H' M M := ⟨fun a o h => ⟨k a o h.1, h.2⟩⟩
/-- the eight places are apart -/
theorem own_ne {A : Adr} {r : Addr} (h : (A.own r).Nodup) : r ≠ A.kl ∧ r ≠ A.cd ∧ r ≠ A.fd ∧ r ≠ A.ll ∧ r ≠ A.pl ∧ r ≠ A.cl ∧ r ≠ A.wl ∧ A.kl ≠ A.cd ∧ A.kl ≠ A.fd ∧ A.kl ≠ A.ll ∧ A.kl ≠ A.pl ∧ A.kl ≠ A.cl ∧ A.kl ≠ A.wl ∧
    A.cd ≠ A.fd ∧ A.cd ≠ A.ll ∧ A.cd ≠ A.pl ∧ A.cd ≠ A.cl ∧ A.cd ≠ A.wl ∧ A.fd ≠ A.ll ∧ A.fd ≠ A.pl ∧ A.fd ≠ A.cl ∧ A.fd ≠ A.wl ∧ A.ll ≠ A.pl ∧ A.ll ≠ A.cl ∧ A.ll ≠ A.wl ∧ A.pl ≠ A.cl ∧ A.pl ≠ A.wl ∧ A.cl ≠ A.wl := by
  unfold Adr.own at h
  simp only [List.nodup_cons, List.mem_cons, not_or, List.not_mem_nil, not_false_eq_true, and_true, List.nodup_nil] at h
  obtain ⟨⟨a1, a2, a3, a4, a5, a6, a7⟩, ⟨b1, b2, b3, b4, b5, b6⟩, ⟨c1, c2, c3, c4, c5⟩, ⟨d1, d2, d3, d4⟩, ⟨e1, e2, e3⟩, ⟨f1, f2⟩, g1⟩ := h
  exact ⟨a1, a2, a3, a4, a5, a6, a7, b1, b2, b3, b4, b5, b6, c1, c2, c3, c4, c5, d1, d2, d3, d4, e1, e2, e3, f1, f2, g1⟩
section
variable {C r : Addr} {H H' : Hp} {A : Adr} {S : Rd}
theorem upd_none {H : Hp} {a b : Addr} {o : HO} (e : L2.upd H a o b = none) : H b = none := by
  by_cases h : b = a
  · rw [h, upd_same] at e; cases e
  · rwa [upd_ne h] at e
theorem RdAt.same (h : RdAt C H r A S) (k : Same H H') : RdAt C H' r A S := by
  obtain ⟨⟨dx, ob⟩, nd, ⟨lv, l1, l2⟩, ⟨kv, k1, k2⟩, ⟨cv, c1, c2⟩, ⟨fv, f1, f2⟩, ll, ⟨pv, p1, p2⟩, cl, wl, nr, xt⟩ := h
  have c : Carry H H' (A.all r) (A.all r) := .same k
  exact ⟨⟨dx, k _ _ ob⟩, nd, ⟨lv, c.fx _ _ l1, Pr.mono (fun _ _ => c.ln) l2⟩, ⟨kv, k _ _ k1, Pr.mono (fun _ _ => c.kl) k2⟩, ⟨cv, k _ _ c1, Pr.mono (fun _ _ => c.cd) c2⟩, ⟨fv, k _ _ f1, Pr.mono (fun _ _ => c.fd) f2⟩, k _ _ ll, ⟨pv, k _ _ p1, p2⟩, k _ _ cl, k _ _ wl, c.fx _ _ nr, fun x hx => ⟨fun z => (xt x hx).1 (k.free z), (xt x hx).2⟩⟩
theorem RdAt.goTo (h : RdAt C H r A S) {dx : Addr} (n : Nat) : RdAt C (L2.upd H r (.ins C dx (A.flds n))) r A { S with pos := n } := by
  obtain ⟨⟨_, ob⟩, nd, ⟨lv, l1, l2⟩, ⟨kv, k1, k2⟩, ⟨cv, c1, c2⟩, ⟨fv, f1, f2⟩, ll, ⟨pv, p1, p2⟩, cl, wl, nr, xt⟩ := h
  obtain ⟨n_r_kl, n_r_cd, n_r_fd, n_r_ll, n_r_pl, n_r_cl, n_r_wl, n_kl_cd, n_kl_fd, n_kl_ll, n_kl_pl, n_kl_cl, n_kl_wl, n_cd_fd, n_cd_ll, n_cd_pl, n_cd_cl, n_cd_wl, n_fd_ll, n_fd_pl, n_fd_cl, n_fd_wl, n_ll_pl, n_ll_cl, n_ll_wl, n_pl_cl, n_pl_wl, n_cl_wl⟩ := own_ne nd
  have c : Carry H (L2.upd H r (HO.ins C dx (A.flds n))) (A.all r) (A.all r) := .upd (by simp [Adr.all, Adr.own])
  exact ⟨⟨dx, upd_same⟩, nd, ⟨lv, c.fx _ _ l1, Pr.mono (fun _ _ => c.ln) l2⟩, ⟨kv, by rw [upd_ne n_r_kl.symm]; exact k1, Pr.mono (fun _ _ => c.kl) k2⟩, ⟨cv, by rw [upd_ne n_r_cd.symm]; exact c1, Pr.mono (fun _ _ => c.cd) c2⟩, ⟨fv, by rw [upd_ne n_r_fd.symm]; exact f1, Pr.mono (fun _ _ => c.fd) f2⟩, by rw [upd_ne n_r_ll.symm]; exact ll, ⟨pv, by rw [upd_ne n_r_pl.symm]; exact p1, p2⟩, by rw [upd_ne n_r_cl.symm]; exact cl, by rw [upd_ne n_r_wl.symm]; exact wl, c.fx _ _ nr, fun x hx => ⟨fun z => (xt x hx).1 (upd_none z), (xt x hx).2⟩⟩
theorem RdAt.setNear (h : RdAt C H r A S) {dx a : Addr} {ws : List Str} (n : Fix H (A.all r) a (.tup (wlist ws))) : RdAt C (L2.upd H r (.ins C dx (({ A with nr := a } : Adr).flds S.pos))) r { A with nr := a } { S with near := ws } := by
  obtain ⟨⟨_, ob⟩, nd, ⟨lv, l1, l2⟩, ⟨kv, k1, k2⟩, ⟨cv, c1, c2⟩, ⟨fv, f1, f2⟩, ll, ⟨pv, p1, p2⟩, cl, wl, nr, xt⟩ := h
  obtain ⟨n_r_kl, n_r_cd, n_r_fd, n_r_ll, n_r_pl, n_r_cl, n_r_wl, n_kl_cd, n_kl_fd, n_kl_ll, n_kl_pl, n_kl_cl, n_kl_wl, n_cd_fd, n_cd_ll, n_cd_pl, n_cd_cl, n_cd_wl, n_fd_ll, n_fd_pl, n_fd_cl, n_fd_wl, n_ll_pl, n_ll_cl, n_ll_wl, n_pl_cl, n_pl_wl, n_cl_wl⟩ := own_ne nd
  have c : Carry H (L2.upd H r (HO.ins C dx (({ A with nr := a } : Adr).flds S.pos))) (A.all r) (A.all r) := .upd (by simp [Adr.all, Adr.own])
  exact ⟨⟨dx, upd_same⟩, nd, ⟨lv, c.fx _ _ l1, Pr.mono (fun _ _ => c.ln) l2⟩, ⟨kv, by rw [upd_ne n_r_kl.symm]; exact k1, Pr.mono (fun _ _ => c.kl) k2⟩, ⟨cv, by rw [upd_ne n_r_cd.symm]; exact c1, Pr.mono (fun _ _ => c.cd) c2⟩, ⟨fv, by rw [upd_ne n_r_fd.symm]; exact f1, Pr.mono (fun _ _ => c.fd) f2⟩, by rw [upd_ne n_r_ll.symm]; exact ll, ⟨pv, by rw [upd_ne n_r_pl.symm]; exact p1, p2⟩, by rw [upd_ne n_r_cl.symm]; exact cl, by rw [upd_ne n_r_wl.symm]; exact wl, c.fx _ _ n, fun x hx => ⟨fun z => (xt x hx).1 (upd_none z), (xt x hx).2⟩⟩
theorem RdAt.addKind (h : RdAt C H r A S) {vs : List V} (e : H A.kl = some (.lst vs)) {v : V} {k : Str × Str × List Str} (n : KindAt H (A.all r) v k) : RdAt C (L2.upd H A.kl (.lst (vs ++ [v]))) r A { S with kinds := S.kinds ++ [k] } := by
  obtain ⟨⟨dx, ob⟩, nd, ⟨lv, l1, l2⟩, ⟨kv, k1, k2⟩, ⟨cv, c1, c2⟩, ⟨fv, f1, f2⟩, ll, ⟨pv, p1, p2⟩, cl, wl, nr, xt⟩ := h
  obtain ⟨n_r_kl, n_r_cd, n_r_fd, n_r_ll, n_r_pl, n_r_cl, n_r_wl, n_kl_cd, n_kl_fd, n_kl_ll, n_kl_pl, n_kl_cl, n_kl_wl, n_cd_fd, n_cd_ll, n_cd_pl, n_cd_cl, n_cd_wl, n_fd_ll, n_fd_pl, n_fd_cl, n_fd_wl, n_ll_pl, n_ll_cl, n_ll_wl, n_pl_cl, n_pl_wl, n_cl_wl⟩ := own_ne nd
  have c : Carry H (L2.upd H A.kl (HO.lst (vs ++ [v]))) (A.all r) (A.all r) := .upd (by simp [Adr.all, Adr.own])
  exact ⟨⟨dx, by rw [upd_ne n_r_kl]; exact ob⟩, nd, ⟨lv, c.fx _ _ l1, Pr.mono (fun _ _ => c.ln) l2⟩, ⟨_, upd_same, Pr.snoc (c.kl n) (Pr.mono (fun _ _ => c.kl) (by rw [e] at k1; cases k1; exact k2))⟩, ⟨cv, by rw [upd_ne n_kl_cd.symm]; exact c1, Pr.mono (fun _ _ => c.cd) c2⟩, ⟨fv, by rw [upd_ne n_kl_fd.symm]; exact f1, Pr.mono (fun _ _ => c.fd) f2⟩, by rw [upd_ne n_kl_ll.symm]; exact ll, ⟨pv, by rw [upd_ne n_kl_pl.symm]; exact p1, p2⟩, by rw [upd_ne n_kl_cl.symm]; exact cl, by rw [upd_ne n_kl_wl.symm]; exact wl, c.fx _ _ nr, fun x hx => ⟨fun z => (xt x hx).1 (upd_none z), (xt x hx).2⟩⟩
theorem RdAt.addChain (h : RdAt C H r A S) {vs : List (Key × V)} (e : H A.cd = some (.dK vs)) {v : Key × V} {k : Str × List Str} (n : ChAt H (A.all r) v k) : RdAt C (L2.upd H A.cd (.dK (vs ++ [v]))) r A { S with chains := S.chains ++ [k] } := by
  obtain ⟨⟨dx, ob⟩, nd, ⟨lv, l1, l2⟩, ⟨kv, k1, k2⟩, ⟨cv, c1, c2⟩, ⟨fv, f1, f2⟩, ll, ⟨pv, p1, p2⟩, cl, wl, nr, xt⟩ := h
  obtain ⟨n_r_kl, n_r_cd, n_r_fd, n_r_ll, n_r_pl, n_r_cl, n_r_wl, n_kl_cd, n_kl_fd, n_kl_ll, n_kl_pl, n_kl_cl, n_kl_wl, n_cd_fd, n_cd_ll, n_cd_pl, n_cd_cl, n_cd_wl, n_fd_ll, n_fd_pl, n_fd_cl, n_fd_wl, n_ll_pl, n_ll_cl, n_ll_wl, n_pl_cl, n_pl_wl, n_cl_wl⟩ := own_ne nd
  have c : Carry H (L2.upd H A.cd (HO.dK (vs ++ [v]))) (A.all r) (A.all r) := .upd (by simp [Adr.all, Adr.own])
  exact ⟨⟨dx, by rw [upd_ne n_r_cd]; exact ob⟩, nd, ⟨lv, c.fx _ _ l1, Pr.mono (fun _ _ => c.ln) l2⟩, ⟨kv, by rw [upd_ne n_kl_cd]; exact k1, Pr.mono (fun _ _ => c.kl) k2⟩, ⟨_, upd_same, Pr.snoc (c.cd n) (Pr.mono (fun _ _ => c.cd) (by rw [e] at c1; cases c1; exact c2))⟩, ⟨fv, by rw [upd_ne n_cd_fd.symm]; exact f1, Pr.mono (fun _ _ => c.fd) f2⟩, by rw [upd_ne n_cd_ll.symm]; exact ll, ⟨pv, by rw [upd_ne n_cd_pl.symm]; exact p1, p2⟩, by rw [upd_ne n_cd_cl.symm]; exact cl, by rw [upd_ne n_cd_wl.symm]; exact wl, c.fx _ _ nr, fun x hx => ⟨fun z => (xt x hx).1 (upd_none z), (xt x hx).2⟩⟩
theorem RdAt.addField (h : RdAt C H r A S) {vs : List (Key × V)} (e : H A.fd = some (.dK vs)) {v : Key × V} {k : Str × List Str} (n : FdAt H (A.all r) v k) : RdAt C (L2.upd H A.fd (.dK (vs ++ [v]))) r A { S with fields := S.fields ++ [k] } := by
  obtain ⟨⟨dx, ob⟩, nd, ⟨lv, l1, l2⟩, ⟨kv, k1, k2⟩, ⟨cv, c1, c2⟩, ⟨fv, f1, f2⟩, ll, ⟨pv, p1, p2⟩, cl, wl, nr, xt⟩ := h
  obtain ⟨n_r_kl, n_r_cd, n_r_fd, n_r_ll, n_r_pl, n_r_cl, n_r_wl, n_kl_cd, n_kl_fd, n_kl_ll, n_kl_pl, n_kl_cl, n_kl_wl, n_cd_fd, n_cd_ll, n_cd_pl, n_cd_cl, n_cd_wl, n_fd_ll, n_fd_pl, n_fd_cl, n_fd_wl, n_ll_pl, n_ll_cl, n_ll_wl, n_pl_cl, n_pl_wl, n_cl_wl⟩ := own_ne nd
  have c : Carry H (L2.upd H A.fd (HO.dK (vs ++ [v]))) (A.all r) (A.all r) := .upd (by simp [Adr.all, Adr.own])
  exact ⟨⟨dx, by rw [upd_ne n_r_fd]; exact ob⟩, nd, ⟨lv, c.fx _ _ l1, Pr.mono (fun _ _ => c.ln) l2⟩, ⟨kv, by rw [upd_ne n_kl_fd]; exact k1, Pr.mono (fun _ _ => c.kl) k2⟩, ⟨cv, by rw [upd_ne n_cd_fd]; exact c1, Pr.mono (fun _ _ => c.cd) c2⟩, ⟨_, upd_same, Pr.snoc (c.fd n) (Pr.mono (fun _ _ => c.fd) (by rw [e] at f1; cases f1; exact f2))⟩, by rw [upd_ne n_fd_ll.symm]; exact ll, ⟨pv, by rw [upd_ne n_fd_pl.symm]; exact p1, p2⟩, by rw [upd_ne n_fd_cl.symm]; exact cl, by rw [upd_ne n_fd_wl.symm]; exact wl, c.fx _ _ nr, fun x hx => ⟨fun z => (xt x hx).1 (upd_none z), (xt x hx).2⟩⟩
theorem RdAt.addLabel (h : RdAt C H r A S) (x : Str) : RdAt C (L2.upd H A.ll (.lst (wlist S.labels ++ [.str x]))) r A { S with labels := S.labels ++ [x] } := by
  obtain ⟨⟨dx, ob⟩, nd, ⟨lv, l1, l2⟩, ⟨kv, k1, k2⟩, ⟨cv, c1, c2⟩, ⟨fv, f1, f2⟩, ll, ⟨pv, p1, p2⟩, cl, wl, nr, xt⟩ := h
  obtain ⟨n_r_kl, n_r_cd, n_r_fd, n_r_ll, n_r_pl, n_r_cl, n_r_wl, n_kl_cd, n_kl_fd, n_kl_ll, n_kl_pl, n_kl_cl, n_kl_wl, n_cd_fd, n_cd_ll, n_cd_pl, n_cd_cl, n_cd_wl, n_fd_ll, n_fd_pl, n_fd_cl, n_fd_wl, n_ll_pl, n_ll_cl, n_ll_wl, n_pl_cl, n_pl_wl, n_cl_wl⟩ := own_ne nd
  have c : Carry H (L2.upd H A.ll (HO.lst (wlist S.labels ++ [.str x]))) (A.all r) (A.all r) := .upd (by simp [Adr.all, Adr.own])
  exact ⟨⟨dx, by rw [upd_ne n_r_ll]; exact ob⟩, nd, ⟨lv, c.fx _ _ l1, Pr.mono (fun _ _ => c.ln) l2⟩, ⟨kv, by rw [upd_ne n_kl_ll]; exact k1, Pr.mono (fun _ _ => c.kl) k2⟩, ⟨cv, by rw [upd_ne n_cd_ll]; exact c1, Pr.mono (fun _ _ => c.cd) c2⟩, ⟨fv, by rw [upd_ne n_fd_ll]; exact f1, Pr.mono (fun _ _ => c.fd) f2⟩, by rw [upd_same]; simp [wlist], ⟨pv, by rw [upd_ne n_ll_pl.symm]; exact p1, p2⟩, by rw [upd_ne n_ll_cl.symm]; exact cl, by rw [upd_ne n_ll_wl.symm]; exact wl, c.fx _ _ nr, fun x hx => ⟨fun z => (xt x hx).1 (upd_none z), (xt x hx).2⟩⟩
theorem RdAt.addPart (h : RdAt C H r A S) {vs : List V} (e : H A.pl = some (.lst vs)) (v : V) : RdAt C (L2.upd H A.pl (.lst (vs ++ [v]))) r A { S with parts := S.parts + 1 } := by
  obtain ⟨⟨dx, ob⟩, nd, ⟨lv, l1, l2⟩, ⟨kv, k1, k2⟩, ⟨cv, c1, c2⟩, ⟨fv, f1, f2⟩, ll, ⟨pv, p1, p2⟩, cl, wl, nr, xt⟩ := h
  obtain ⟨n_r_kl, n_r_cd, n_r_fd, n_r_ll, n_r_pl, n_r_cl, n_r_wl, n_kl_cd, n_kl_fd, n_kl_ll, n_kl_pl, n_kl_cl, n_kl_wl, n_cd_fd, n_cd_ll, n_cd_pl, n_cd_cl, n_cd_wl, n_fd_ll, n_fd_pl, n_fd_cl, n_fd_wl, n_ll_pl, n_ll_cl, n_ll_wl, n_pl_cl, n_pl_wl, n_cl_wl⟩ := own_ne nd
  have c : Carry H (L2.upd H A.pl (HO.lst (vs ++ [v]))) (A.all r) (A.all r) := .upd (by simp [Adr.all, Adr.own])
  exact ⟨⟨dx, by rw [upd_ne n_r_pl]; exact ob⟩, nd, ⟨lv, c.fx _ _ l1, Pr.mono (fun _ _ => c.ln) l2⟩, ⟨kv, by rw [upd_ne n_kl_pl]; exact k1, Pr.mono (fun _ _ => c.kl) k2⟩, ⟨cv, by rw [upd_ne n_cd_pl]; exact c1, Pr.mono (fun _ _ => c.cd) c2⟩, ⟨fv, by rw [upd_ne n_fd_pl]; exact f1, Pr.mono (fun _ _ => c.fd) f2⟩, by rw [upd_ne n_ll_pl]; exact ll, ⟨_, upd_same, by rw [e] at p1; cases p1; rw [List.length_append, p2]; rfl⟩, by rw [upd_ne n_pl_cl.symm]; exact cl, by rw [upd_ne n_pl_wl.symm]; exact wl, c.fx _ _ nr, fun x hx => ⟨fun z => (xt x hx).1 (upd_none z), (xt x hx).2⟩⟩
theorem RdAt.addCell (h : RdAt C H r A S) (x : Str) : RdAt C (L2.upd H A.cl (.lst (wlist S.cells ++ [.str x]))) r A { S with cells := S.cells ++ [x] } := by
  obtain ⟨⟨dx, ob⟩, nd, ⟨lv, l1, l2⟩, ⟨kv, k1, k2⟩, ⟨cv, c1, c2⟩, ⟨fv, f1, f2⟩, ll, ⟨pv, p1, p2⟩, cl, wl, nr, xt⟩ := h
  obtain ⟨n_r_kl, n_r_cd, n_r_fd, n_r_ll, n_r_pl, n_r_cl, n_r_wl, n_kl_cd, n_kl_fd, n_kl_ll, n_kl_pl, n_kl_cl, n_kl_wl, n_cd_fd, n_cd_ll, n_cd_pl, n_cd_cl, n_cd_wl, n_fd_ll, n_fd_pl, n_fd_cl, n_fd_wl, n_ll_pl, n_ll_cl, n_ll_wl, n_pl_cl, n_pl_wl, n_cl_wl⟩ := own_ne nd
  have c : Carry H (L2.upd H A.cl (HO.lst (wlist S.cells ++ [.str x]))) (A.all r) (A.all r) := .upd (by simp [Adr.all, Adr.own])
  exact ⟨⟨dx, by rw [upd_ne n_r_cl]; exact ob⟩, nd, ⟨lv, c.fx _ _ l1, Pr.mono (fun _ _ => c.ln) l2⟩, ⟨kv, by rw [upd_ne n_kl_cl]; exact k1, Pr.mono (fun _ _ => c.kl) k2⟩, ⟨cv, by rw [upd_ne n_cd_cl]; exact c1, Pr.mono (fun _ _ => c.cd) c2⟩, ⟨fv, by rw [upd_ne n_fd_cl]; exact f1, Pr.mono (fun _ _ => c.fd) f2⟩, by rw [upd_ne n_ll_cl]; exact ll, ⟨pv, by rw [upd_ne n_pl_cl]; exact p1, p2⟩, by rw [upd_same]; simp [wlist], by rw [upd_ne n_cl_wl.symm]; exact wl, c.fx _ _ nr, fun x hx => ⟨fun z => (xt x hx).1 (upd_none z), (xt x hx).2⟩⟩
theorem RdAt.addWorth (h : RdAt C H r A S) (x : Int) : RdAt C (L2.upd H A.wl (.lst (ilist S.worths ++ [.int x]))) r A { S with worths := S.worths ++ [x] } := by
  obtain ⟨⟨dx, ob⟩, nd, ⟨lv, l1, l2⟩, ⟨kv, k1, k2⟩, ⟨cv, c1, c2⟩, ⟨fv, f1, f2⟩, ll, ⟨pv, p1, p2⟩, cl, wl, nr, xt⟩ := h
  obtain ⟨n_r_kl, n_r_cd, n_r_fd, n_r_ll, n_r_pl, n_r_cl, n_r_wl, n_kl_cd, n_kl_fd, n_kl_ll, n_kl_pl, n_kl_cl, n_kl_wl, n_cd_fd, n_cd_ll, n_cd_pl, n_cd_cl, n_cd_wl, n_fd_ll, n_fd_pl, n_fd_cl, n_fd_wl, n_ll_pl, n_ll_cl, n_ll_wl, n_pl_cl, n_pl_wl, n_cl_wl⟩ := own_ne nd
  have c : Carry H (L2.upd H A.wl (HO.lst (ilist S.worths ++ [.int x]))) (A.all r) (A.all r) := .upd (by simp [Adr.all, Adr.own])
  exact ⟨⟨dx, by rw [upd_ne n_r_wl]; exact ob⟩, nd, ⟨lv, c.fx _ _ l1, Pr.mono (fun _ _ => c.ln) l2⟩, ⟨kv, by rw [upd_ne n_kl_wl]; exact k1, Pr.mono (fun _ _ => c.kl) k2⟩, ⟨cv, by rw [upd_ne n_cd_wl]; exact c1, Pr.mono (fun _ _ => c.cd) c2⟩, ⟨fv, by rw [upd_ne n_fd_wl]; exact f1, Pr.mono (fun _ _ => c.fd) f2⟩, by rw [upd_ne n_ll_wl]; exact ll, ⟨pv, by rw [upd_ne n_pl_wl]; exact p1, p2⟩, by rw [upd_ne n_cl_wl]; exact cl, by rw [upd_same]; simp [ilist], c.fx _ _ nr, fun x hx => ⟨fun z => (xt x hx).1 (upd_none z), (xt x hx).2⟩⟩
/-- one more place that the data avoid -/
theorem RdAt.enter (h : RdAt C H r A S) {D : Addr} {o : HO} (nD : H D = none) : RdAt C (L2.upd H D o) r { A with xt := D :: A.xt } S := by
  obtain ⟨⟨dx, ob⟩, nd, ⟨lv, l1, l2⟩, ⟨kv, k1, k2⟩, ⟨cv, c1, c2⟩, ⟨fv, f1, f2⟩, ll, ⟨pv, p1, p2⟩, cl, wl, nr, xt⟩ := h
  have k : Same H (L2.upd H D o) := Same.new nD
  have c : Carry H (L2.upd H D o) (A.all r) (({ A with xt := D :: A.xt } : Adr).all r) := ⟨fun a u hf => ⟨k _ _ hf.1, fun z => by
    have z : a ∈ A.own r ++ D :: A.xt := z
    rcases List.mem_append.mp z with z | z
    · exact hf.2 (List.mem_append_left _ z)
    · rcases List.mem_cons.mp z with z | z
      · have w1 := hf.1
        rw [‹a = D›, nD] at w1
        cases w1
      · exact hf.2 (List.mem_append_right _ z)⟩⟩
  have tr : ∀ q ∈ A.own r, H q ≠ none := by
    intro q hq
    simp only [Adr.own, List.mem_cons, List.not_mem_nil, or_false] at hq
    rcases hq with rfl | rfl | rfl | rfl | rfl | rfl | rfl | rfl <;> simp_all
  refine ⟨⟨dx, k _ _ ob⟩, nd, ⟨lv, c.fx _ _ l1, Pr.mono (fun _ _ => c.ln) l2⟩, ⟨kv, k _ _ k1, Pr.mono (fun _ _ => c.kl) k2⟩, ⟨cv, k _ _ c1, Pr.mono (fun _ _ => c.cd) c2⟩, ⟨fv, k _ _ f1, Pr.mono (fun _ _ => c.fd) f2⟩, k _ _ ll, ⟨pv, k _ _ p1, p2⟩, k _ _ cl, k _ _ wl, c.fx _ _ nr, fun x hx => ?_⟩
  rcases List.mem_cons.mp hx with rfl | hx
  · exact ⟨by rw [upd_same]; simp, fun z => tr _ z nD⟩
  · exact ⟨fun z => (xt x hx).1 (upd_none z), (xt x hx).2⟩
theorem RdAt.leave {D : Addr} (h : RdAt C H r { A with xt := D :: A.xt } S) : RdAt C H r A S := by
  obtain ⟨⟨dx, ob⟩, nd, ⟨lv, l1, l2⟩, ⟨kv, k1, k2⟩, ⟨cv, c1, c2⟩, ⟨fv, f1, f2⟩, ll, ⟨pv, p1, p2⟩, cl, wl, nr, xt⟩ := h
  have c : Carry H H (({ A with xt := D :: A.xt } : Adr).all r) (A.all r) := ⟨fun a u hf => ⟨hf.1, fun z => hf.2 (by
    show a ∈ A.own r ++ D :: A.xt
    rcases List.mem_append.mp z with z | z
    · exact List.mem_append_left _ z
    · exact List.mem_append_right _ (List.mem_cons_of_mem _ z))⟩⟩
  exact ⟨⟨dx, ob⟩, nd, ⟨lv, c.fx _ _ l1, Pr.mono (fun _ _ => c.ln) l2⟩, ⟨kv, k1, Pr.mono (fun _ _ => c.kl) k2⟩, ⟨cv, c1, Pr.mono (fun _ _ => c.cd) c2⟩, ⟨fv, f1, Pr.mono (fun _ _ => c.fd) f2⟩, ll, ⟨pv, p1, p2⟩, cl, wl, c.fx _ _ nr, fun x hx => xt x (List.mem_cons_of_mem _ hx)⟩
/-- a place that the data avoid, stored to -/
theorem RdAt.store (h : RdAt C H r A S) {D : Addr} {o : HO} (hD : D ∈ A.xt) : RdAt C (L2.upd H D o) r A S := by
  obtain ⟨⟨dx, ob⟩, nd, ⟨lv, l1, l2⟩, ⟨kv, k1, k2⟩, ⟨cv, c1, c2⟩, ⟨fv, f1, f2⟩, ll, ⟨pv, p1, p2⟩, cl, wl, nr, xt⟩ := h
  have c : Carry H (L2.upd H D o) (A.all r) (A.all r) := .upd (List.mem_append_right _ hD)
  have ne : ∀ q ∈ A.own r, q ≠ D := fun q hq z => (xt D hD).2 (z ▸ hq)
  have m : ∀ q, q ∈ A.own r → L2.upd H D o q = H q := fun q hq => upd_ne (ne q hq)
  exact ⟨⟨dx, by rw [m _ (by simp [Adr.own])]; exact ob⟩, nd, ⟨lv, c.fx _ _ l1, Pr.mono (fun _ _ => c.ln) l2⟩, ⟨kv, by rw [m _ (by simp [Adr.own])]; exact k1, Pr.mono (fun _ _ => c.kl) k2⟩, ⟨cv, by rw [m _ (by simp [Adr.own])]; exact c1, Pr.mono (fun _ _ => c.cd) c2⟩,
    ⟨fv, by rw [m _ (by simp [Adr.own])]; exact f1, Pr.mono (fun _ _ => c.fd) f2⟩, by rw [m _ (by simp [Adr.own])]; exact ll, ⟨pv, by rw [m _ (by simp [Adr.own])]; exact p1, p2⟩, by rw [m _ (by simp [Adr.own])]; exact cl, by rw [m _ (by simp [Adr.own])]; exact wl, c.fx _ _ nr,
    fun x hx => ⟨fun z => (xt x hx).1 (upd_none z), (xt x hx).2⟩⟩
end
end Rdr
/-! part B3 -/
set_option Elab.async false
set_option linter.all false
set_option maxRecDepth 100000
namespace K7
open PySem L2 Rdr
theorem sign_ge (c d : Nat) : (!decide (([c] : List Nat) < [d])) = decide (d ≤ c) := by
  have e : (([c] : List Nat) < [d]) ↔ c < d := by simp [List.cons_lt_cons_iff]
  by_cases h : c < d
  · rw [decide_eq_false (p := d ≤ c) (by omega), decide_eq_true (e.mpr h)]
    rfl
  · rw [decide_eq_true (p := d ≤ c) (by omega), decide_eq_false (fun z => h (e.mp z))]
    rfl
theorem le_line {n : Nat} (h : n ≤ 20002) : n ≤ sizeLine := by
  rw [sizeLine_eq]
  omega
/-! ### a def or a method that keeps its promise, with how it is called -/
section
variable (P : Program) (w : World) (K : PySem.W.Frag) (mg : Str → Option Value) (base : Heap)
structure MOk (k : Nat) (C : Addr) (m : Str) (sp : Sp) : Prop where
  ex : ∃ f fd ps, Meth K C m f ∧ FnOk P w K mg base (L2.CX P w) k f fd ps sp ∧ Binds K fd ps []
structure DOk (k : Nat) (x : Str) (sp : Sp) : Prop where
  ex : ∃ f fd ps, mg x = some (.ref f) ∧ PySem.W.keepIn K (.ref f) = true ∧ FnOk P w K mg base (L2.CX P w) k f fd ps sp ∧ Binds K fd ps []
end
section
variable {X : Cx} {k : Nat} {C : Addr} {m x : Str} {sp : Sp} {E : XK} {o e : Expr} {es : List Expr} {ta : TE} {t : TA} {apos pos p : Pos}
theorem m_meth {pl : Sem Bool} (he : PE X o ta) (c : Cls X.K C) (G : MOk X.prog X.w X.K X.mg X.base k C m sp) (hr : Room k X.A) (hx : Passes (L2.CX X.prog X.w) X E) (ha : PA X (e :: es) t)
    (hst : starEach (e :: es) X.env = (false, eval e X.env) :: starEach es X.env := by rfl) (hpl : (backTo pos (starEach es X.env)).any (·.1) = false := by rfl)
    (ht : eval (.Call (.Attribute o m apos) (e :: es) [] pos) X.env = (do
      let ov ← eval o X.env
      standAt apos.atName
      let (f, first) ← holding [ov] (getMethod ov m pl)
      callWith pos f first (backTo pos (starEach (e :: es) X.env)) (backToKw pos (keywordEach [] X.env))) := by rfl) :
    PE X (.Call (.Attribute o m apos) (e :: es) [] pos) (tMeth C m sp [] E ta t) := by
  obtain ⟨f, fd, ps, hm, F, b⟩ := G.ex
  exact pe_meth he c hm F hr b .nil hx ha hst hpl ht
theorem m_meth0 {pl : Sem Bool} (he : PE X o ta) (c : Cls X.K C) (G : MOk X.prog X.w X.K X.mg X.base k C m sp) (hr : Room k X.A) (hx : Passes (L2.CX X.prog X.w) X E)
    (ht : eval (.Call (.Attribute o m apos) [] [] pos) X.env = (do
      let ov ← eval o X.env
      standAt apos.atName
      let (f, first) ← holding [ov] (getMethod ov m pl)
      callWith pos f first (backTo pos (starEach [] X.env)) (backToKw pos (keywordEach [] X.env))) := by rfl) :
    PE X (.Call (.Attribute o m apos) [] [] pos) (tMeth C m sp [] E ta tNil) := by
  obtain ⟨f, fd, ps, hm, F, b⟩ := G.ex
  exact pe_meth0 he c hm F hr b .nil hx ht
theorem f_call (G : DOk X.prog X.w X.K X.mg X.base k x sp) (hr : Room k X.A) (hx : Passes (L2.CX X.prog X.w) X E) (ha : PA X (e :: es) t) (hg : Gl X x := by rfl)
    (hdb : (x == ("__debug__" : Str)) = false := by decide) (he : starEach (e :: es) X.env = (false, eval e X.env) :: starEach es X.env := by rfl) (hpl : (backTo pos (starEach es X.env)).any (·.1) = false := by rfl) :
    PE X (.Call (.Name x p) (e :: es) [] pos) (tCall sp [] E t) := by
  obtain ⟨f, fd, ps, hm, kp, F, b⟩ := G.ex
  exact pe_call F hr hg hm kp b .nil hx ha hdb he hpl
end
/-! ### the text by places -/
abbrev sBadInit : Stmt := inClass (top 2) 0
abbrev sLnInit : Stmt := inClass (top 5) 0
abbrev sWordsAt : Stmt := inClass (top 5) 1
abbrev sBegins : Stmt := inClass (top 5) 2
abbrev sNeed : Stmt := inClass (top 5) 3
abbrev sParted : Stmt := top 6
abbrev sIsWord : Stmt := top 9
/-- facts of the module's names and of the reader's class C and the error's cB -/
structure RT (K : PySem.W.Frag) (mg : Str → Option Value) (C cB fB : Addr) (fdB : FuncData) : Prop where
  len : mg "len" = none
  tuple : mg "tuple" = none
  int : mg "int" = none
  str : mg "str" = none
  range : mg "range" = none
  all : mg "all" = none
  isinstance : mg "isinstance" = none
  BLANKS : ∃ t, mg "BLANKS" = some (.int 2 t)
  MOST_LETTERS : ∃ t, mg "MOST_LETTERS" = some (.int 8 t)
  cl : Cls K C
  lines : NoAttr K C "lines"
  at_ : NoAttr K C "at"
  kinds : NoAttr K C "kinds"
  chains : NoAttr K C "chains"
  fields : NoAttr K C "fields"
  labels : NoAttr K C "labels"
  parts : NoAttr K C "parts"
  cells : NoAttr K C "cells"
  worths : NoAttr K C "worths"
  near : NoAttr K C "near"
  mgB : mg "BadText" = some (.ref cB)
  oB : OexC K cB
  iB : PySem.W.findIn K (.ref cB) "__init__" = some (some (.ref fB))
  tB : PySem.W.typeIn K (.ref fB) = some (.type "function")
  nB : PySem.W.findIn K (.ref cB) "line" = some none
  FB : Fun K "__init__" "BadText.__init__" sBadInit fB fdB
  bB : Binds K fdB ["self", "line"] []
/-- an error that tells the line n, all else as it was -/
def Bad (cB : Addr) (E : XK) (M : List Addr) (H : Hp) (n : Int) : Prop := ∀ (d : Addr) (H' : Hp), H d = none → But M H H' → H' d = some (.xd [("line", .int n)]) → E (.ref cB) (some d) H'
def spBadInit (K : PySem.W.Frag) : Sp := fun vs H Q _ => ∃ (a C : Addr) (v : V), vs = [.ref a, v] ∧ OexC K C ∧ PySem.W.findIn K (.ref C) "line" = some none ∧ H a = some (exo a C none) ∧
  ∀ dx, H dx = none → dx ≠ a → Q .non (upd (upd H dx (exd dx [("line", v)])) a (exo a C (some dx)))
def spParted : Sp := fun vs H Q _ => ∃ (l : Str), vs = [.str l] ∧ l.length ≤ 20000 ∧ (Txt.lstripChars l " ").length ≤ 20000 ∧
  ∀ (t a : Addr) (H' : Hp), Same H H' → H t = none → H a = none → H' t = some (.tup [.int (parted l).1, .ref a]) → H' a = some (.lst (wlist (parted l).2)) → Q (.ref t) H'
/-- of a text: whether it is a word -/
def spWord : Sp := fun vs H Q _ => ∃ (l : Str), vs = [.str l] ∧ l.length ≤ 20000 ∧ ∀ H', Same H H' → Q (.bl (word l)) H'
def spWordsAt (C : Addr) : Sp := fun vs H Q _ => ∃ (r : Addr) (A : Adr) (S : Rd) (d : Int), vs = [.ref r, .int d] ∧ RdAt C H r A S ∧ S.pos ≤ S.ls.length ∧ 0 ≤ d ∧ d < 100 ∧
  ∀ (a : Addr) (H' : Hp), Same H H' → a ∉ A.own r → H' a = some (.lst (wlist (S.wordsAt d))) → Q (.ref a) H'
def spNeed (C cB : Addr) : Sp := fun vs H Q E => ∃ (r : Addr) (A : Adr) (S : Rd) (b : Bool), vs = [.ref r, .bl b] ∧ RdAt C H r A S ∧
  (b = true → Q .non H) ∧ (b = false → Bad cB E (A.own r) H ((S.pos : Int) + 1))
section
variable {P : Program} {w : World} {K : PySem.W.Frag} {mg : Str → Option Value} {base : Heap} {C cB fB : Addr} {fdB : FuncData}
theorem sc_badInit : FnScope ["self", "line"] ["self", "line"] (defScope sBadInit) := ⟨rfl, rfl, rfl, by decide +kernel, rfl, by decide +kernel, by decide +kernel⟩
theorem ok_badInit {f : Addr} {fd : FuncData} (F : Fun K "__init__" "BadText.__init__" sBadInit f fd) : FnOk P w K mg base (L2.CX P w) 1 f fd ["self", "line"] (spBadInit K) := by
  refine F.okX sc_badInit (fun vs H Q E h => ?_) (fun cdv A outer s H vs Q E hr h => ?_)
  · obtain ⟨a, C, v, rfl, _⟩ := h
    rfl
  · obtain ⟨a, C, v, rfl, o, n, ha, k⟩ := h
    refine ⟨_, pss_one (ps_ost (pv 0) (pv 1)), ?_⟩
    exact ⟨_, rfl, _, rfl, a, C, rfl, o, n, .inl ⟨ha, k⟩⟩
theorem sc_parted : FnScope ["line", "rest"] ["line"] (defScope sParted) := ⟨rfl, rfl, rfl, by decide +kernel, rfl, by decide +kernel, by decide +kernel⟩
theorem ok_parted {f : Addr} {fd : FuncData} (F : Fun K "_parted" "_parted" sParted f fd) (T : RT K mg C cB fB fdB) : FnOk P w K mg base (L2.CX P w) 1 f fd ["line"] spParted := by
  refine F.okX sc_parted (fun vs H Q E h => ?_) (fun cdv A outer s H vs Q E hr h => ?_)
  · obtain ⟨l, rfl, _⟩ := h
    rfl
  · obtain ⟨l, rfl, hl, hl2, k⟩ := h
    refine ⟨_, (pss_cons (ps_set (i := 1) sc_parted.nd rfl (Or.inl rfl) (pe_bm PySem.F.plainAttrs_str PySem.F.slot_str_lstrip PySem.F.type_str_lstrip mt_lstripChars (pv 0) (pa_cons pe_str pa_nil)))
      (pss_one (ps_ret (pe_tup (pa_cons (pe_op op_sub (pe_callB call_len_str (by rfl) T.len (PySem.boot_len) (pa_cons (pv 0) pa_nil)) (pe_callB call_len_str (by rfl) T.len (PySem.boot_len) (pa_cons (pv 1) pa_nil))) (pa_cons (pe_split (pv 1) pe_str) pa_nil)))))), ?_⟩
    refine ⟨_, rfl, rfl, _, _, rfl, rfl, le_line (by omega), ?_⟩
    refine ⟨_, rfl, _, rfl, le_line (by omega), _, rfl, _, rfl, le_line (by omega), _, _, rfl, rfl, _, rfl, ⟨_, rfl⟩, _, _, rfl, rfl, (by decide), ?_, fun a ha => ?_⟩
    · have := le_line (n := 20002) (by omega); omega
    refine ⟨(by show 2 ≤ sizeLine; decide), fun t ht => ?_⟩
    have s1 : Same H (upd H a (.lst (wlist (parted l).2))) := Same.new ha
    have nt : H t = none := s1.free ht
    have hat : a ≠ t := ne_of_none (upd_same (H := H) (a := a)) ht
    exact k t a _ (s1.trans (Same.new ht)) nt ha upd_same (by rw [upd_ne hat]; exact upd_same)
theorem sc_word : FnScope ["value", "letter"] ["value"] (defScope sIsWord) := ⟨rfl, rfl, rfl, by decide +kernel, rfl, by decide +kernel, by decide +kernel⟩
theorem ok_word {f : Addr} {fd : FuncData} (F : Fun K "is_word" "is_word" sIsWord f fd) (T : RT K mg C cB fB fdB) : FnOk P w K mg base (L2.CX P w) 1 f fd ["value"] spWord := by
  obtain ⟨tL, cL⟩ := T.MOST_LETTERS
  refine F.okX sc_word (fun vs H Q E h => ?_) (fun cdv A outer s H vs Q E hr h => ?_)
  · obtain ⟨l, rfl, _⟩ := h
    rfl
  · obtain ⟨l, rfl, hl, k⟩ := h
    refine ⟨_, (pss_cons (ps_if (PW.pt (pw_or (pt_not (pt_val (pe_callB call_isi (by rfl) T.isinstance (by decide +kernel) (pa_cons (pv 0) (pa_cons (pe_bltn (v := .ty "str") (by rfl) T.str (by decide +kernel) rfl) pa_nil)))))
        (pw_or1 (pt_not (pt_chain op_le op_le pe_int (pe_callB call_len_str (by rfl) T.len PySem.boot_len (pa_cons (pv 0) pa_nil)) (pe_glob (v := .int 8) rfl cL ⟨_, rfl⟩)))))) (pss_one (ps_ret pe_bl)) pss_nil)
      (pss_one (ps_ret (pe_callB (cr_all rfl) (by rfl) T.all (by decide +kernel) (pa_cons (pe_lc (own := [("letter", 1)]) (g := gName 1) (tt := tYes) rfl sc_word.nd (pi_str (pv 0)) (blkOk_by (N := ["value", "letter"]) (sc := defScope sIsWord) (by decide +kernel))
        (fun _ _ _ _ _ => pg_name (i := 1) sc_word.nd rfl (Or.inl rfl)) (fun _ _ _ _ _ => pts_nil) (fun _ _ _ _ _ => pe_chain op_le_str op_le_str pe_str (pv 1) pe_str)) pa_nil))))), ?_⟩
    refine ⟨_, rfl, _, .ty "str", .type "str", .type "str", true, rfl, .ty _, .base (.str _), kit_ty (by decide +kernel), _, rfl, ?_⟩
    refine iteF ?_
    refine ⟨_, rfl, _, rfl, le_line (by omega), _, _, rfl, rfl, _, rfl, ?_⟩
    refine ite2 (fun h1 => ?_) (fun h1 => ?_)
    · have h1 := of_decide_eq_true h1
      refine ⟨_, _, rfl, rfl, _, rfl, ?_⟩
      by_cases h2 : (l.length : Int) ≤ 8
      · refine iteNS h2 ?_
        have e : word l = l.cps.toList.all letter := by
          unfold word
          rw [decide_eq_true (by omega), decide_eq_true (by omega)]
          rfl
        refine ⟨_, rfl, l, rfl, fun D nD => lc_it (G := fun _ => True) walk_str (fun i H' => Same H H' ∧ H' D = some (.lst ((l.cps.toList.take i).map fun c => V.bl (letter c))))
          ⟨Same.new nD, upd_same⟩ (fun _ _ _ _ => trivial) ?_ ?_⟩
        · rintro i x H1 H2 hi ⟨s1, d1⟩ ⟨rfl, c, hc, rfl⟩
          have fin : ∀ b : Bool, b = letter c → ∃ acc, H2 D = some (.lst acc) ∧ acc.length < sizeLine ∧ (Same H (upd H2 D (.lst (acc ++ [V.bl b]))) ∧ upd H2 D (.lst (acc ++ [V.bl b])) D = some (.lst ((l.cps.toList.take (i + 1)).map fun c => V.bl (letter c)))) := fun b hb => by
            refine ⟨_, d1, ?_, fun q o z => ?_, ?_⟩
            · have := le_line (n := 20002) (by omega)
              have hl' : l.cps.size ≤ 20000 := hl
              simp only [List.length_map, List.length_take, Array.length_toList]
              omega
            · rw [upd_ne (ne_of_none z nD)]
              exact s1 q o z
            · rw [upd_same, hb]
              have hc' : l.cps.toList[i]? = some c := by simpa using hc
              rw [List.take_add_one, hc']
              simp
          refine ⟨rfl, _, rfl, _, _, rfl, rfl, _, rfl, ?_⟩
          have e1 : (!decide ((⟨#[c]⟩ : Str).cps.toList < (Str.ofString "a").cps.toList)) = decide (97 ≤ c) := sign_ge c 97
          have e2 : (!decide ((Str.ofString "z").cps.toList < (⟨#[c]⟩ : Str).cps.toList)) = decide (c ≤ 122) := sign_ge 122 c
          refine ite2 (fun h3 => ?_) (fun h3 => ?_)
          · refine ⟨_, _, rfl, rfl, ?_⟩
            refine fin _ ?_
            rw [e1] at h3
            show (!decide ((Str.ofString "z").cps.toList < (⟨#[c]⟩ : Str).cps.toList)) = (decide (97 ≤ c) && decide (c ≤ 122))
            rw [e2, h3]
            rfl
          · refine fin _ ?_
            rw [e1] at h3
            have h3 : decide (97 ≤ c) = false := by simpa using h3
            show false = (decide (97 ≤ c) && decide (c ≤ 122))
            rw [h3]
            rfl
        · rintro H1 ⟨s1, d1⟩
          have z : l.cps.toList.take l.cps.size = l.cps.toList := List.take_of_length_le (by simp)
          rw [z] at d1
          refine ⟨D, l.cps.toList.map letter, rfl, .inl (.inl ?_), ?_⟩
          · rw [d1, List.map_map]
            rfl
          · have := k H1 s1
            rw [e] at this
            rw [List.all_map]
            exact this
      · rw [decide_eq_false h2]
        refine iteT ?_
        have e : word l = false := by
          unfold word
          rw [decide_eq_false (p := l.length ≤ 8) (by omega)]
          simp
        have := k H (Same.refl H)
        rw [e] at this
        exact this
    · have h1 : ¬ ((1 : Int) ≤ (l.length : Int)) := fun z => h1 (decide_eq_true z)
      refine ⟨_, rfl, ?_⟩
      refine iteT ?_
      have e : word l = false := by
        unfold word
        rw [decide_eq_false (p := 1 ≤ l.length) (by omega)]
        rfl
      have := k H (Same.refl H)
      rw [e] at this
      exact this
end
end K7
/-! part B4 -/
set_option Elab.async false
set_option linter.all false
set_option maxRecDepth 100000
namespace K7
open PySem L2 Rdr
theorem RdAt.line {C r : Addr} {H : Hp} {A : Adr} {S : Rd} (h : RdAt C H r A S) {b : Int} {ws : List Str} (e : S.ls[S.pos]? = some (b, ws)) :
    ∃ vs t a, H A.ln = some (.lst vs) ∧ vs.length = S.ls.length ∧ atI vs (S.pos : Int) = some (.ref t) ∧ H t = some (.tup [.int b, .ref a]) ∧ H a = some (.lst (wlist ws)) ∧ a ∉ A.own r := by
  obtain ⟨vs, l1, l2⟩ := h.ln
  obtain ⟨v, hv, t, a, rfl, f, g⟩ := Pr.at l2 e
  exact ⟨vs, t, a, l1.1, l2.length, atI_nat hv, f.1, g.1, fun z => g.2 (List.mem_append_left _ z)⟩
theorem RdAt.tracked {C r : Addr} {H : Hp} {A : Adr} {S : Rd} (h : RdAt C H r A S) : ∀ q ∈ A.own r, H q ≠ none := by
  obtain ⟨⟨dx, ob⟩, nd, ⟨lv, l1, l2⟩, ⟨kv, k1, k2⟩, ⟨cv, c1, c2⟩, ⟨fv, f1, f2⟩, ll, ⟨pv, p1, p2⟩, cl, wl, nr, xt⟩ := h
  intro q hq
  simp only [Adr.own, List.mem_cons, List.not_mem_nil, or_false] at hq
  rcases hq with rfl | rfl | rfl | rfl | rfl | rfl | rfl | rfl <;> simp_all
theorem int_ne {a b : Nat} (h : a ≠ b) : ¬ (decide (V.int (a : Int) = V.int (b : Int)) = true) := fun z => h (by have := V.int.inj (of_decide_eq_true z); omega)
section
variable {P : Program} {w : World} {K : PySem.W.Frag} {mg : Str → Option Value} {base : Heap} {C cB fB : Addr} {fdB : FuncData}
theorem sc_words_at : FnScope ["self", "depth", "blanks", "words"] ["self", "depth"] (defScope sWordsAt) := ⟨rfl, rfl, rfl, by decide +kernel, rfl, by decide +kernel, by decide +kernel⟩
theorem ok_words_at {f : Addr} {fd : FuncData} (F : Fun K "words_at" "Lines.words_at" sWordsAt f fd) (T : RT K mg C cB fB fdB) : FnOk P w K mg base (L2.CX P w) 1 f fd ["self", "depth"] (spWordsAt C) := by
  obtain ⟨tB, cBLANKS⟩ := T.BLANKS
  refine F.okX sc_words_at (fun vs H Q E h => ?_) (fun cdv A outer s H vs Q E hr h => ?_)
  · obtain ⟨r, A, S, d, rfl, _⟩ := h
    rfl
  · obtain ⟨r, A, S, d, rfl, R, hp, d0, d1, k⟩ := h
    obtain ⟨dx, ob⟩ := R.ob
    obtain ⟨lv, l1, l2⟩ := R.ln
    refine ⟨_, (pss_cons (ps_if (pt_cmpR op_eq (pe_fld (pv 0) rfl) (pe_callB call_len_seq (by rfl) T.len (PySem.boot_len) (pa_cons (pe_fld (pv 0) rfl) pa_nil)) (nomark _))
      (pss_one (ps_ret (pe_lst pa_nil))) pss_nil)
      (pss_cons (ps_asg (pe_ix ix_list (pe_fld (pv 0) rfl) (pe_fld (pv 0) rfl) (fun _ _ => rfl)) (pg_tup rfl (pgs_cons (pg_name (i := 2) sc_words_at.nd rfl (Or.inl rfl)) (pgs_cons (pg_name (i := 3) sc_words_at.nd rfl (Or.inl rfl)) pgs_nil))))
      (pss_one (ps_ret (pe_ifExp (pt_cmpR op_eq (pv 2) (pe_op op_mul (pe_glob (v := .int 2) rfl cBLANKS ⟨_, rfl⟩) (pv 1)) (nomark _)) (pv 3) (pe_lst pa_nil)))))), ?_⟩
    have noWords : S.wordsAt d = [] → ∀ (p : Addr), H p = none → Q (.ref p) (upd H p (.lst [])) := fun e p np => by
      refine k p _ (Same.new np) (fun z => ?_) (by rw [upd_same, e]; rfl)
      have tr : ∀ q ∈ A.own r, H q ≠ none := RdAt.tracked R
      exact tr p z np
    refine ⟨_, rfl, r, C, dx, _, _, rfl, ob, T.cl, T.at_, rfl, _, rfl, r, C, dx, _, _, rfl, ob, T.cl, T.lines, rfl, _, _, rfl, .inl (SqL.of l1.1), rfl, _, rfl, ?_⟩
    cases e : S.ls[S.pos]? with
    | none =>
      have hq : S.pos = lv.length := by
        have := l2.length
        have := List.getElem?_eq_none_iff.mp e
        omega
      rw [hq]
      rw [decide_eq_true rfl]
      refine iteT ?_
      refine ⟨(by show 0 ≤ sizeLine; decide), fun p np => ?_⟩
      exact noWords (by unfold Rd.wordsAt; rw [e]) p np
    | some l =>
      obtain ⟨b, ws⟩ := l
      have hlt := (List.getElem?_eq_some_iff.mp e).1
      have hq : S.pos ≠ lv.length := by
        have := l2.length
        omega
      rw [decide_eq_false (fun z => hq (by have := V.int.inj z; omega))]
      refine iteF ?_
      obtain ⟨vs, t, a, v1, v2, v3, v4, v5, v6⟩ := RdAt.line R e
      refine ⟨_, rfl, r, C, dx, _, _, rfl, ob, T.cl, T.lines, rfl, _, rfl, r, C, dx, _, _, rfl, ob, T.cl, T.at_, rfl, _, _, _, _, rfl, rfl, SqL.of v1, v3, t, _, rfl, SqT.of v4, rfl, _, _, rfl, _, _, rfl, rfl, ?_⟩
      refine ⟨_, rfl, _, rfl, _, _, rfl, rfl, .inl ⟨by decide, by decide⟩, rfl, _, rfl, ?_⟩
      have ew : S.wordsAt d = if b = 2 * d then ws else [] := by unfold Rd.wordsAt; rw [e]
      by_cases hb : b = 2 * d
      · rw [hb, decide_eq_true rfl]
        refine iteT ?_
        refine ⟨_, rfl, ?_⟩
        exact k a H (Same.refl H) v6 (by rw [ew, if_pos hb]; exact v5)
      · rw [decide_eq_false (fun z => hb (V.int.inj z))]
        refine iteF ?_
        refine ⟨(by show 0 ≤ sizeLine; decide), fun p np => ?_⟩
        exact noWords (by rw [ew, if_neg hb]) p np
end
end K7
/-! part B5 -/
set_option Elab.async false
set_option linter.all false
set_option maxRecDepth 100000
namespace Rdr
open PySem L2
def okw (x : Str) : Bool := decide (x.length ≤ 20000) && PyData.strOk x
structure Fine (S : Rd) : Prop where
  p : S.pos ≤ S.ls.length
  n : S.ls.length ≤ 20000
  ws : ∀ l ∈ S.ls, l.2.length ≤ 20000 ∧ ∀ x ∈ l.2, okw x = true
  k : S.kinds.length ≤ 4
  c : S.chains.length = S.kinds.length
  f : S.fields.length = S.kinds.length
  cf : ∀ c ∈ S.chains, c.2.length ≤ 3 ∧ ∀ x ∈ c.2, (S.fields.lookup x).isSome = true
  ff : ∀ x ∈ S.fields, x.2.length ≤ 3
  nf : S.near.length ≤ 3 ∧ ∀ x ∈ S.near, (S.fields.lookup x).isSome = true
  l : S.labels.length ≤ S.pos
  w : S.worths.length = S.cells.length ∧ S.cells.length ≤ 2 ∧ ∀ x ∈ S.worths, x = 2 ∨ x = 3
  q : S.parts ≤ 2
  ck : S.fields.map (·.1) = S.chains.map (·.1)
  kw : ∀ c ∈ S.chains, word c.1 = true
  kn : ∀ c ∈ S.kinds, word c.1 = true
theorem Fine.words {S : Rd} (h : Fine S) (d : Int) : (S.wordsAt d).length ≤ 20000 ∧ ∀ x ∈ S.wordsAt d, okw x = true := by
  unfold Rd.wordsAt
  cases e : S.ls[S.pos]? with
  | none => exact ⟨by simp, by simp⟩
  | some l =>
    have := h.ws l (List.mem_of_getElem? e)
    dsimp only
    split
    · exact this
    · exact ⟨by simp, by simp⟩
/-- words to go on by: a line is left -/
theorem Rd.more {S : Rd} {d : Int} (h : S.wordsAt d ≠ []) : S.pos < S.ls.length := by
  cases e : S.ls[S.pos]? with
  | none => exact absurd (by unfold Rd.wordsAt; rw [e]) h
  | some l => exact (List.getElem?_eq_some_iff.mp e).1
abbrev pstrs (ws : List Str) : PyData := .list (ws.map PyData.str)
theorem canAll : ∀ {ws : List Str}, (∀ x ∈ ws, okw x = true) → PyData.canLayAll0 (ws.map PyData.str) = true
  | [], _ => rfl
  | x :: r, h => by
    have h1 := h x List.mem_cons_self
    have h2 := canAll fun y hy => h y (List.mem_cons_of_mem _ hy)
    unfold okw at h1
    have h3 := (Bool.and_eq_true_iff.mp h1).2
    show (PyData.strOk x && PyData.canLayAll0 (r.map PyData.str)) = true
    rw [h3, h2]
    rfl
theorem depAll : ∀ {ws : List Str}, PyData.depthAll (ws.map PyData.str) = 0
  | [] => rfl
  | x :: r => by
    show max 0 (PyData.depthAll (r.map PyData.str)) = 0
    rw [depAll]
    rfl
theorem shaped_strs {ws : List Str} (h : ∀ x ∈ ws, okw x = true) : SeqAt.shaped (pstrs ws) = true := by
  unfold SeqAt.shaped
  have e1 : (pstrs ws).canLay0 = true := canAll h
  have e2 : (pstrs ws).depth = 1 := by
    show PyData.depthAll (ws.map PyData.str) + 1 = 1
    rw [depAll]
  rw [e1, e2]
  rfl
theorem eqvAll_strs : ∀ {a b : List Str}, PyData.eqvAll (a.map PyData.str) (b.map PyData.str) = decide (a = b)
  | [], [] => by simp [PyData.eqvAll]
  | [], _ :: _ => by simp [PyData.eqvAll]
  | _ :: _, [] => by simp [PyData.eqvAll]
  | x :: a, y :: b => by
    have ih := eqvAll_strs (a := a) (b := b)
    show (x == y && PyData.eqvAll (a.map PyData.str) (b.map PyData.str)) = decide (x :: a = y :: b)
    rw [ih]
    by_cases h : x = y
    · subst h; simp
    · simp [h]
theorem eqv_strs {a b : List Str} : PyData.eqv (pstrs a) (pstrs b) = decide (a = b) := eqvAll_strs
theorem dpAll {K : PySem.W.Frag} {H : Hp} : ∀ {ws : List Str}, DpAll K H (wlist ws) (ws.map PyData.str)
  | [] => .nil
  | x :: _ => .cons (.str x) dpAll
theorem dp_strs {K : PySem.W.Frag} {H : Hp} {a : Addr} {ws : List Str} (h : H a = some (.lst (wlist ws))) : Dp K H (.ref a) (pstrs ws) := .lst (SqL.of h) dpAll
theorem cut_to {xs : List V} (k : Nat) : cutV xs none (some (k : Int)) = xs.take k := by
  unfold cutV
  rw [HT.sIx_none, HT.sIx_nat, List.drop_zero, Nat.sub_zero]
  by_cases h : k ≤ xs.length
  · rw [Nat.min_eq_left h]
  · rw [Nat.min_eq_right (by omega), List.take_of_length_le (Nat.le_refl _), List.take_of_length_le (by omega)]
theorem cut_from {xs : List V} (k : Nat) : cutV xs (some (k : Int)) none = xs.drop k := by
  unfold cutV
  rw [HT.sIx_none, HT.sIx_nat]
  by_cases h : k ≤ xs.length
  · rw [Nat.min_eq_left h, List.take_of_length_le (by simp)]
  · rw [Nat.min_eq_right (by omega), List.drop_of_length_le (Nat.le_refl _), List.drop_of_length_le (by omega)]
    simp
end Rdr
namespace K7
open PySem L2 Rdr
def spBegins (C : Addr) : Sp := fun vs H Q _ => ∃ (r : Addr) (A : Adr) (S : Rd) (d : Int) (x : Str), vs = [.ref r, .int d, .str x] ∧ RdAt C H r A S ∧ Fine S ∧ 0 ≤ d ∧ d < 100 ∧ okw x = true ∧
  ∀ H', Same H H' → Q (.bl (decide ((S.wordsAt d).take 1 = [x]))) H'
/-- the names of methods are no attributes -/
theorem noMeth {A : Adr} {n : Nat} {m : Str} (h : (rdF .non .non .non .non .non .non .non .non .non .non).lookup m = none) : (A.flds n).lookup m = none := by
  unfold Adr.flds rdF at *
  simp only [List.lookup] at *
  repeat' split at h <;> simp_all
section
variable {P : Program} {w : World} {K : PySem.W.Frag} {mg : Str → Option Value} {base : Heap} {C cB fB : Addr} {fdB : FuncData}
theorem sc_begins : FnScope ["self", "depth", "word"] ["self", "depth", "word"] (defScope sBegins) := ⟨rfl, rfl, rfl, by decide +kernel, rfl, by decide +kernel, by decide +kernel⟩
theorem ok_begins {f : Addr} {fd : FuncData} (F : Fun K "begins" "Lines.begins" sBegins f fd) (T : RT K mg C cB fB fdB) (G : MOk P w K mg base 1 C "words_at" (spWordsAt C)) : FnOk P w K mg base (L2.CX P w) 2 f fd ["self", "depth", "word"] (spBegins C) := by
  refine F.okX sc_begins (fun vs H Q E h => ?_) (fun cdv A outer s H vs Q E hr h => ?_)
  · obtain ⟨r, A, S, d, x, rfl, _⟩ := h
    rfl
  · obtain ⟨r, A, S, d, x, rfl, R, S1, d0, d1, hx, k⟩ := h
    obtain ⟨dx, ob⟩ := R.ob
    refine ⟨_, pss_one (ps_ret (pe_cmpR (op_eqD hr.units) (pe_slice sl_list (m_meth (pv 0) T.cl G hr passL (pa_cons (pv 1) pa_nil)) po_none (po_some pe_int)) (pe_lst (pa_cons (pv 2) pa_nil)) (nomark _))), ?_⟩
    refine ⟨_, rfl, r, dx, _, rfl, ob, noMeth (by decide +kernel), _, rfl, r, A, S, d, rfl, R, S1.p, d0, d1, fun a H1 s1 na ha => ?_⟩
    refine ⟨_, rfl, a, _, rfl, SqL.of ha, fun p np => ?_⟩
    have hap : a ≠ p := ne_of_none ha np
    refine ⟨_, rfl, (by show 1 ≤ sizeLine; decide), fun q nq => ?_⟩
    have e1 : cutV (wlist (S.wordsAt d)) none (some 1) = wlist ((S.wordsAt d).take 1) := by rw [show ((1 : Int)) = ((1 : Nat) : Int) from rfl, cut_to]; exact (List.map_take ..).symm
    rw [e1] at nq ⊢
    have hpq : p ≠ q := ne_of_none (upd_same (H := H1) (a := p)) nq
    have w1 := (S1.words d).2
    refine ⟨pstrs ((S.wordsAt d).take 1), pstrs [x], dp_strs (by rw [upd_ne hpq]; exact upd_same), dp_strs upd_same, shaped_strs (fun y hy => w1 y (List.mem_of_mem_take hy)), shaped_strs (fun y hy => by simp at hy; rw [hy]; exact hx), ?_⟩
    rw [eqv_strs]
    exact k _ ((s1.trans (Same.new np)).trans (Same.new nq))
end
end K7
/-! part B6 -/
set_option Elab.async false
set_option linter.all false
set_option maxRecDepth 100000
namespace K7
open PySem L2 Rdr
section
variable {P : Program} {w : World} {K : PySem.W.Frag} {mg : Str → Option Value} {base : Heap} {C cB fB : Addr} {fdB : FuncData}
theorem sc_need : FnScope ["self", "holds"] ["self", "holds"] (defScope sNeed) := ⟨rfl, rfl, rfl, by decide +kernel, rfl, by decide +kernel, by decide +kernel⟩
theorem ok_need {f : Addr} {fd : FuncData} (F : Fun K "need" "Lines.need" sNeed f fd) (T : RT K mg C cB fB fdB) : FnOk P w K mg base (L2.CX P w) 3 f fd ["self", "holds"] (spNeed C cB) := by
  have GB : FnOk P w K mg base (L2.CX P w) 1 fB fdB ["self", "line"] (spBadInit K) := ok_badInit T.FB
  refine F.okX sc_need (fun vs H Q E h => ?_) (fun cdv A outer s H vs Q E hr h => ?_)
  · obtain ⟨r, A, S, b, rfl, _⟩ := h
    rfl
  · obtain ⟨r, A, S, b, rfl, R, k1, k2⟩ := h
    obtain ⟨dx, ob⟩ := R.ob
    refine ⟨_, pss_one (ps_if (pt_not (pt_val (pv 1)))
      (pss_one (ps_raise rfl (takes_of rfl rfl rfl rfl) (pmk_oex T.oB T.iB T.tB GB hr T.bB .nil passL rfl T.mgB (pa_cons (pe_op op_add (pe_fld (pv 0) rfl) pe_int) pa_nil)))) pss_nil), ?_⟩
    refine ⟨_, rfl, _, rfl, ?_⟩
    cases b with
    | true =>
      refine iteF ?_
      exact k1 rfl
    | false =>
      refine iteT ?_
      refine ⟨_, rfl, r, C, dx, _, _, rfl, ob, T.cl, T.at_, rfl, _, _, rfl, rfl, (by show 1 ≤ 1000; decide), fun a na => ?_⟩
      refine ⟨a, cB, _, rfl, T.oB, T.nB, upd_same, fun d nd hd => ⟨rfl, d, _, upd_same, by rw [upd_ne hd]; exact upd_same, ?_, ?_⟩⟩
      · rwa [upd_ne hd] at nd
      · have nd' : H d = none := by rwa [upd_ne hd] at nd
        refine k2 rfl d _ nd' ⟨fun b o hb _ => ?_, fun b hb => ?_⟩ upd_same
        · have ba : b ≠ a := ne_of_none hb na
          have bd : b ≠ d := ne_of_none hb nd'
          rw [upd_ne bd, del_ne ba, upd_ne ba, upd_ne bd, upd_ne ba]
          exact hb
        · by_cases ba : b = a
          · rw [ba]; exact na
          · by_cases bd : b = d
            · rw [bd]; exact nd'
            · rwa [upd_ne bd, del_ne ba, upd_ne ba, upd_ne bd, upd_ne ba] at hb
end
end K7
/-! part B7 -/
set_option Elab.async false
set_option linter.all false
set_option maxRecDepth 100000
namespace Rdr
open PySem L2
/-- what the sizes must be -/
def fits (t : Str) : Bool := decide (t.length ≤ 20000) && decide ((Txt.split t "\n").length ≤ 20000) &&
  (Txt.split t "\n").all fun l => decide (l.length ≤ 20000) && decide ((Txt.lstripChars l " ").length ≤ 20000) && decide ((parted l).2.length ≤ 20000) && (parted l).2.all okw
structure Fits (t : Str) : Prop where
  z : t.length ≤ 20000
  n : (Txt.split t "\n").length ≤ 20000
  l : ∀ l ∈ Txt.split t "\n", l.length ≤ 20000 ∧ (Txt.lstripChars l " ").length ≤ 20000 ∧ (parted l).2.length ≤ 20000 ∧ ∀ x ∈ (parted l).2, okw x = true
theorem fits_of {t : Str} (h : fits t = true) : Fits t := by
  unfold fits at h
  simp only [Bool.and_eq_true, decide_eq_true_eq, List.all_eq_true] at h
  obtain ⟨⟨h1, h2⟩, h3⟩ := h
  exact ⟨h1, h2, fun l hl => ⟨(h3 l hl).1.1.1, (h3 l hl).1.1.2, (h3 l hl).1.2, (h3 l hl).2⟩⟩
theorem start_fine {t : Str} (h : Fits t) : Fine (start t) := by
  refine ⟨Nat.zero_le _, ?_, ?_, by simp [start], by simp [start], by simp [start], by simp [start], by simp [start], by simp [start], by simp [start], by simp [start], by simp [start], by simp [start], by simp [start], by simp [start]⟩
  · show ((Txt.split t "\n").map parted).length ≤ 20000
    rw [List.length_map]
    exact h.n
  · intro l hl
    obtain ⟨x, hx, rfl⟩ := List.mem_map.mp (show l ∈ (Txt.split t "\n").map parted from hl)
    exact (h.l x hx).2.2
end Rdr
namespace K7
open PySem L2 Rdr
/-- self.lines, self.at of a new instance -/
def spLnInit (C : Addr) : Sp := fun vs H Q _ => ∃ (r dx p : Addr) (t : Str), vs = [.ref r, .ref p] ∧ H r = some (.ins C dx []) ∧ H p = some (.lst ((Txt.split t "\n").map V.str)) ∧ Fits t ∧
  ∀ (ln : Addr) (vs : List V) (H' : Hp), But [r] H H' → H ln = none → H' r = some (.ins C dx [("lines", .ref ln), ("at", .int 0)]) → Fix H' [r] ln (.lst vs) → Paired (LineAt H' [r]) vs (start t).ls → Q .non H'
section
variable {P : Program} {w : World} {K : PySem.W.Frag} {mg : Str → Option Value} {base : Heap} {C cB fB : Addr} {fdB : FuncData}
theorem sc_lnInit : FnScope ["self", "lines", "line"] ["self", "lines"] (defScope sLnInit) := ⟨rfl, rfl, rfl, by decide +kernel, rfl, by decide +kernel, by decide +kernel⟩
theorem ok_lnInit {f : Addr} {fd : FuncData} (F : Fun K "__init__" "Lines.__init__" sLnInit f fd) (T : RT K mg C cB fB fdB) (G : DOk P w K mg base 1 "_parted" spParted) : FnOk P w K mg base (L2.CX P w) 2 f fd ["self", "lines"] (spLnInit C) := by
  refine F.okX sc_lnInit (fun vs H Q E h => ?_) (fun cdv A outer s H vs Q E hr h => ?_)
  · obtain ⟨r, dx, p, t, rfl, _⟩ := h
    rfl
  · obtain ⟨r, dx, p, t, rfl, hR, hp, ft, k⟩ := h
    refine ⟨_, pss_cons (ps_fld (pv 0) (pe_lc (own := [("line", 2)]) (g := gName 2) (tt := tYes) rfl sc_lnInit.nd (pi_list (pv 1)) (blkOk_by (N := ["self", "lines", "line"]) (sc := defScope sLnInit) (by decide +kernel))
        (fun _ _ _ _ _ => pg_name (i := 2) sc_lnInit.nd rfl (Or.inl rfl)) (fun _ _ _ _ _ => pts_nil) (fun _ _ _ _ _ => f_call G hr passL (pa_cons (pv 2) pa_nil))) rfl)
      (pss_one (ps_fld (pv 0) pe_int rfl)), ?_⟩
    have ht := ft.z
    generalize hH1 : H = H1
    have s01 : Same H H1 := by rw [← hH1]; exact Same.refl _
    have hp1 : H1 p = some (.lst ((Txt.split t "\n").map V.str)) := by rw [← hH1]; exact hp
    have hr1 : H1 r = some (.ins C dx []) := s01 _ _ hR
    refine ⟨_, rfl, p, rfl, ⟨_, SqL.of hp1⟩, fun D nD => lc_list (K := K) (a := p) (xs := (Txt.split t "\n").map V.str)
      (fun i H' => Same H1 H' ∧ ∃ acc, H' D = some (.lst acc) ∧ Paired (LineAt H' [r, D]) acc (((Txt.split t "\n").take i).map parted)) ⟨Same.new nD, [], upd_same, .nil⟩ (fun i H' _ ⟨s1, _⟩ => SqL.of (s1 _ _ hp1)) ?_ ?_⟩
    · rintro i y H2 hi ⟨s1, acc, hD, pr⟩
      obtain ⟨x, hx, rfl⟩ : ∃ x, (Txt.split t "\n")[i]? = some x ∧ y = V.str x := by
        rw [List.getElem?_map] at hi
        cases e : (Txt.split t "\n")[i]? with
        | none => rw [e] at hi; cases hi
        | some x => rw [e] at hi; exact ⟨x, rfl, (Option.some.inj hi).symm⟩
      obtain ⟨f1, f2, f3, f4⟩ := ft.l x (List.mem_of_getElem? hx)
      refine ⟨rfl, _, rfl, x, rfl, f1, f2, fun t2 a H3 s2 nt na ht2 ha => ?_⟩
      have c : Carry H2 H3 [r, D] [r, D] := .same s2
      refine ⟨acc, s2 _ _ hD, ?_, fun b o hb => ?_, acc ++ [.ref t2], upd_same, ?_⟩
      · have := le_line (n := 20002) (by omega)
        have l1 := pr.length
        have l2 := ft.n
        rw [List.length_map, List.length_take] at l1
        omega
      · rw [upd_ne (ne_of_none hb nD)]
        exact s2 _ _ (s1 _ _ hb)
      · have e : ((Txt.split t "\n").take (i + 1)).map parted = ((Txt.split t "\n").take i).map parted ++ [parted x] := by
          rw [List.take_add_one, hx]
          simp
        rw [e]
        have cu : Carry H3 (upd H3 D (.lst (acc ++ [V.ref t2]))) [r, D] [r, D] := .upd (by simp)
        have nr2 : H2 r ≠ none := by rw [s1 _ _ hr1]; simp
        have nD2 : H2 D ≠ none := by rw [hD]; simp
        have fr : ∀ b, H2 b = none → b ∉ [r, D] := fun b hb hm => by
          simp only [List.mem_cons, List.not_mem_nil, or_false] at hm
          rcases hm with rfl | rfl
          · exact nr2 hb
          · exact nD2 hb
        exact Pr.snoc (cu.ln ⟨t2, a, rfl, ⟨ht2, fr _ nt⟩, ⟨ha, fr _ na⟩⟩) (Pr.mono (fun _ _ z => cu.ln (c.ln z)) pr)
    · rintro H2 ⟨s1, acc, hD, pr⟩
      have el : (Txt.split t "\n").take ((Txt.split t "\n").map V.str).length = Txt.split t "\n" := List.take_of_length_le (by simp)
      rw [el] at pr
      have hr2 : H2 r = some (.ins C dx []) := s1 _ _ hr1
      have rD : D ≠ r := fun z => by rw [z, s1 r _ hr1] at hD; cases hD
      refine ⟨_, rfl, r, C, dx, [], rfl, hr2, T.cl, T.lines, (by show 0 < 1000; decide), _, rfl, r, C, dx, _, rfl, upd_same, T.cl, T.at_, (by show 1 < 1000; decide), ?_⟩
      have nD0 : H D = none := s01.free nD
      have cb : ∀ b o, H2 b = some o → b ∉ [r] → upd (upd H2 r (.ins C dx (putF "lines" (V.ref D) []))) r (.ins C dx (putF "at" (.int 0) (putF "lines" (V.ref D) []))) b = some o := fun b o hb hn => by
        have br : b ≠ r := by simpa using hn
        rw [upd_ne br, upd_ne br]
        exact hb
      have cr : Carry H2 (upd (upd H2 r (.ins C dx (putF "lines" (V.ref D) []))) r (.ins C dx (putF "at" (.int 0) (putF "lines" (V.ref D) [])))) [r, D] [r] := ⟨fun a o h => by
        have hn : a ∉ [r] := fun z => h.2 (by simp at z; simp [z])
        exact ⟨cb a o h.1 hn, hn⟩⟩
      refine k D acc _ ⟨fun b o hb hn => cb b o (s1 _ _ (s01 _ _ hb)) hn, fun b hb => ?_⟩ nD0 ?_ ⟨cb D _ hD (by simpa using rD), by simpa using rD⟩ (Pr.mono (fun _ _ z => cr.ln z) pr)
      · by_cases br : b = r
        · rw [br, upd_same] at hb; cases hb
        · rw [upd_ne br, upd_ne br] at hb
          exact s01.free (s1.free hb)
      · rw [upd_same]
        rfl
end
end K7
/-! part X1 -/
set_option Elab.async false
set_option linter.all false
set_option maxRecDepth 100000
/-! A list comprehension whose element may raise. -/
namespace LcX
open PySem L2 PySem.Spec PyProof.Rows
section
variable {M : Model} {A : Around} {E : Value → Shared → Prop} {s : Shared} {env : Env}
/-- what stands behind the block: an error is handed on, in the frame of the def -/
def Behind (M : Model) (A : Around) (E : Value → Shared → Prop) (use : Option (Value → Sem Unit)) (Q : Value → Shared → Prop) (fr : Option Addr) (acc : Value) (C : Addr) : Result → Shared → Prop
  | .ok r, s1 => compPost M A E use Q acc C (.ok r) s1
  | .error x, s1 => ∃ m, s1.heap.Ns C m ∧ ∀ h1, Heap.SameBut C s1.heap h1 → ∀ ce : Env, ce.frame = fr → wpAny M A (passOn "comprehension.variables-let-go" x ce : Sem Value) (fun _ _ => False) E { s1 with heap := h1 }
theorem behind_free {e : Expr} {scope : Scope} {pos : Pos} {newAcc first : Sem Value} {g : Comprehension} {gs : List Comprehension} {cl : List (Str × Addr)} {use : Option (Value → Sem Unit)} {Q : Value → Shared → Prop}
    (k1 : clausesOf e = g :: gs) (k2 : ∀ x, foldedSetIterable g.iter env x = pure x) (k3 : closureFor scope env = pure cl) (k4 : scope.kind = .function) (k5 : ∀ x ∈ scope.names, x.2 = .local → scope.names.lookup x.1 = some .local)
    (h : wpAny M A first (fun x s1 => wpAny M A (pyIter x) (fun it s2 => wpAny M A newAcc (fun acc s3 => wpAny M A (newFunctionEnv scope env.globals cl [] env.qual none .none (some env)) (fun ce s4 => ce.frame = env.frame ∧
      codeAny M A (.compStart e 0 it acc { ce with scope := relabel scope env }) (Behind M A E use Q env.frame acc ce.locals) s4) E s3) E s2) E s1) E s) : wpAny M A (comprehension e scope env pos newAcc false first use) Q E s := by
  unfold comprehension
  rw [k3, k1]
  refine wpAny_bind (wpAny_mono h (fun x s1 a1 => ?_) fun _ _ z => z)
  refine wpAny_bind (wpAny_standAt (wpAny_bind (wpAny_of_eq (k2 x) (wpAny_bind (wpAny_holding (wpAny_mono a1 (fun it s2 a2 => ?_) fun _ _ z => z))))))
  refine wpAny_standIf (wpAny_bind (wpAny_mono a2 (fun acc s3 a3 => ?_) fun _ _ z => z))
  refine wpAny_bind (wpAny_pure (wpAny_bind (wpAny_mono a3 (fun ce s4 a4 => ?_) fun _ _ z => z)))
  dsimp only
  obtain ⟨fr, a4⟩ := a4
  have v1 : ∀ x ∈ (scope.names.filter fun x => (x.2 == .local || x.2 == .cell) && x.1 != (".0" : Str)).reverse, x.2 = .local → Env.kindOf { ce with scope := relabel scope env } x.1 = some .local :=
    fun x hx hl => lookup_relabel_local (k5 x (List.mem_filter.mp (List.mem_reverse.mp hx)).1 hl)
  have v2 : ∀ x ∈ (scope.names.filter fun x => (x.2 == .local || x.2 == .cell) && x.1 != (".0" : Str)).reverse.drop 1 ++ (scope.names.filter fun x => (x.2 == .local || x.2 == .cell) && x.1 != (".0" : Str)).reverse.take 1, x.2 = .local →
      Env.kindOf { ce with scope := relabel scope env } x.1 = some .local := fun x hx hl => (List.mem_append.mp hx).elim (fun z => v1 x (List.mem_of_mem_drop z) hl) fun z => v1 x (List.mem_of_mem_take z) hl
  refine wpAny_holding (wpAny_bind (wpAny_attempt (wpAny_holding (wpAny_run (codeAny_mono a4 fun r s5 hr => ?_)))))
  cases r with
  | error x =>
    obtain ⟨m, hn, hr⟩ := (show ∃ m, s5.heap.Ns ce.locals m ∧ ∀ h1, Heap.SameBut ce.locals s5.heap h1 → ∀ ce' : Env, ce'.frame = env.frame → wpAny M A (passOn "comprehension.variables-let-go" x ce' : Sem Value) (fun _ _ => False) E { s5 with heap := h1 } from hr)
    exact wpAny_bind (wpAny_holding (wpAny_comp_letGo (cenv := { ce with scope := relabel scope env }) k4 _ s5 m v1 hn fun h1 m1 _ sb => wpAny_mono (hr h1 sb _ fr) (fun _ _ z => z.elim) fun _ _ z => z))
  | ok f =>
    cases use with
    | none =>
      obtain ⟨m, hn, hr⟩ := hr
      exact wpAny_bind (wpAny_holding (wpAny_comp_letGo (cenv := { ce with scope := relabel scope env }) k4 _ s5 m v1 hn fun h1 m1 _ sb => wpAny_pure (hr h1 sb)))
    | some u =>
      refine wpAny_bind (wpAny_rule (wpAny_bind (wpAny_holding (wpAny_mono hr (fun _ s6 hr1 => ?_) fun _ _ z => z))))
      obtain ⟨m, hn, hr2⟩ := hr1
      exact wpAny_bind (wpAny_comp_letGo (cenv := { ce with scope := relabel scope env }) k4 _ s6 m v2 hn fun h1 m1 _ sb => wpAny_pure (hr2 h1 sb))
theorem note_frame {x : Value} {e1 e2 : Env} (h : e1.frame = e2.frame) : noteFrame x e1 = noteFrame x e2 := by
  unfold noteFrame PySem.frameOf
  rw [h]
end
end LcX
/-! part X2 -/
set_option Elab.async false
set_option linter.all false
set_option maxRecDepth 100000
set_option maxHeartbeats 2000000
namespace LcX
open PySem L2 PySem.Spec PyProof.Rows HandSPX
section
variable {M : Model} {A : Around} {E : Value → Shared → Prop} {s : Shared} {Z : Obj → Prop} {base : Heap} {env : Env} {outer l : List Env} {L e : Addr}
/-- noted by a frame that did not note it yet, wherever it was seen last -/
theorem note_any {fl : Value} {Q : Unit → Shared → Prop} (hZ : Steady Z) (hfr : A.frames = some (env :: outer)) (hf : env.frame = some L) (kb : base.StaysIn s.heap) (en : base.get? e = none) (hl : s.heap.FunFrames base (env :: outer))
    (tr : TracedZ s.heap base e Z fl) (ne : (fl == rawInt L) = false) (hQ : ∀ h1, HeldZ base (env :: outer) e Z L h1 → s.heap.UpToSlots h1 → Q () { s with heap := h1 }) : wpAny M A (noteFrame (.ref e) env) Q E s := by
  obtain ⟨oe, vs, T, oT, ts, he, hz, hd, h1, nT, Te, hT, dT, h3⟩ := tr
  unfold noteFrame
  simp only [hf]
  refine wpAny_bind (wpAny_field he hd h1 ?_)
  rw [if_pos (show (Value.ref T != Value.none) = true from by simp)]
  refine wpAny_bind (wpAny_field hT dT h3 ?_)
  rw [if_neg (by rw [ne]; simp)]
  refine wpAny_bind (wpAny_setField hT dT (Array.getElem?_eq_some_iff.mp h3).1 ?_)
  have off : ∀ b, b ≠ T → (s.heap.update T (Obj.mapFields (·.setIfInBounds 3 Value.none))).get? b = s.heap.get? b := fun b hb => Heap.get?_update_other _ _ (Ne.symm hb)
  have no : ∀ b o, s.heap.get? b = some o → (∀ vs, o.data ≠ .fields vs) → b ≠ T := fun b o hb hn q => by
    rw [q, hT] at hb
    cases hb
    exact hn ts dT
  refine wpAny_entryZ hZ hfr (hl.of_keeps fun b o hb hn => ⟨o, (off b (no b o hb hn)).trans hb, rfl⟩) hf ((off e (Ne.symm Te)).trans he) (fun b o hb => (off b fun q => by rw [q, nT] at hb; cases hb).trans (kb b o hb)) en hd
    (Array.getElem?_eq_some_iff.mp h1).1 hz fun h2 hN => ?_
  obtain ⟨x1, x2, x3, x4⟩ := hN
  exact hQ h2 ⟨x1, en, x2, x3⟩ fun b o hb hn => x4 b o ((off b (no b o hb hn)).trans hb) hn
end
/-- frames over less ground, in a heap that has them -/
theorem frames_to {h h2 B B2 : Heap} : ∀ {l : List Env}, h.FunFrames B l → (∀ b ∈ frs l, h2.get? b = h.get? b) → (∀ b, B.get? b = none → B2.get? b = none) → h2.FunFrames B2 l
  | [], _, _, _ => trivial
  | ev :: l, x, k, g => by
    obtain ⟨hk, ⟨L, o, hf, hn, ho, hd⟩, hr⟩ := x
    refine ⟨hk, ⟨L, o, hf, g _ hn, ?_, hd⟩, frames_to hr (fun b hb => k b ?_) g⟩
    · rw [k L (List.mem_filterMap.mpr ⟨ev, List.mem_cons_self, hf⟩)]
      exact ho
    · obtain ⟨e', he, q⟩ := List.mem_filterMap.mp hb
      exact List.mem_filterMap.mpr ⟨e', List.mem_cons_of_mem _ he, q⟩
/-- held, and the place C given up -/
theorem held_but {B h1 h2 : Heap} {l : List Env} {a L C : Addr} {Z : Obj → Prop} {oC : Obj} (hC : B.get? C = some oC) (nC : C ∉ frs l) (x : HeldZ B l a Z L h1) (sb : ∀ b, b ≠ C → h2.get? b = h1.get? b) : HeldZ (PySem.W.hideAll B [C]) l a Z L h2 := by
  obtain ⟨x1, x2, x3, oe, vs, T, oT, ts, he, hz, hd, g1, nT, Te, hT, dT, g3⟩ := x
  have less : ∀ b, B.get? b = none → (PySem.W.hideAll B [C]).get? b = none := fun b hb => by
    cases q : (PySem.W.hideAll B [C]).get? b with
    | none => rfl
    | some o =>
      have z := PySem.W.of_hideAll [C] q
      rw [hb] at z
      cases z
  have ne : ∀ b, B.get? b = none → b ≠ C := fun b hb q => by rw [q, hC] at hb; cases hb
  refine ⟨fun b o hb => ?_, less _ x2, frames_to x3 (fun b hb => sb b fun q => nC (q ▸ hb)) less, oe, vs, T, oT, ts, ?_, hz, hd, g1, less _ nT, Te, ?_, dT, g3⟩
  · have bC : b ≠ C := fun q => by
      rw [PySem.W.hideAll_none [C] (by rw [q]; exact List.mem_cons_self)] at hb
      cases hb
    rw [sb b bC]
    exact x1 b o (PySem.W.of_hideAll [C] hb)
  · rw [sb a (ne _ x2)]; exact he
  · rw [sb T (ne _ nT)]; exact hT
section
variable {X : Cx} {W : WX} {pins : List (Addr × Obj)} {σ : L2.St} {H3 : Hp} {s3 : Shared} {ce : Env} {scope : Scope} {fp : List Addr} {use : Option (Value → Sem Unit)} {Qf : Value → Shared → Prop} {D : Addr}
/-- what the block wants of an error -/
abbrev inner (X : Cx) (ce : Env) (use : Option (Value → Sem Unit)) (Qf : Value → Shared → Prop) (D C : Addr) : Value → Shared → Prop :=
  notedBy (model X.prog X.w) X.A ce fun e s' => Behind (model X.prog X.w) X.A X.xe use Qf X.env.frame (.ref D) C (.error e) s'
/-- an error of a call within the block reaches what the def wants of errors -/
theorem pass_in (hs : X.stack = X.env :: X.outer) (hf : X.env.frame = some X.env.locals) (tk : Takes X fun c d _ H => W c d [] H) (I3 : Inv X pins σ H3 s3) (cf : ce.frame = X.env.frame) (cl : ce.locals = s3.heap.objs.size)
    (f3 : ∀ b ∈ fp, FpOk X pins H3 b ∧ b < s3.heap.objs.size) {E0 : XK} (hE : ∀ c d H, E0 c d H → W c d [] H) :
    Passes (L2.CX X.prog X.w) ((X.blk s3 H3 scope ce fp).wish (inner X ce use Qf D s3.heap.objs.size)) E0 := by
  intro p2 σ2 H s e s' I c
  obtain ⟨a, B, sI, p3, σ3, H', cls, d, rfl, J, nb, up, sky, na, os, ag, w⟩ := XE.of_call (W := fun cls d _ H => E0 cls d H) I (fun _ _ _ z => z) c
  have hfr : X.A.frames = some (X.env :: X.outer) := by rw [I3.ok.frames, hs]
  have nC : s3.heap.objs.size ∉ frs X.stack := fun hm => by
    obtain ⟨_, o, e, _⟩ := I3.stack.mem hm
    exact absurd (Heap.lt_size e) (Nat.lt_irrefl _)
  have neL : X.env.locals ≠ s3.heap.objs.size := fun z => by
    refine nC ?_
    rw [← z, hs]
    exact List.mem_filterMap.mpr ⟨X.env, List.mem_cons_self, hf⟩
  show wpAny _ _ (noteFrame (.ref a) ce) _ _ s'
  rw [note_frame cf]
  -- noted in the def's frame
  have fin : ∀ h1, HeldZ B (X.env :: X.outer) a (Zc cls d) X.env.locals h1 → s'.heap.UpToSlots h1 → Behind (model X.prog X.w) X.A X.xe use Qf X.env.frame (.ref D) s3.heap.objs.size (.error (.ref a)) { s' with heap := h1 } := fun h1 held up1 => by
    have J1 := Inv.landed (s' := { s' with heap := h1 }) J nb held.1 (up.trans up1) os ag
    obtain ⟨m, hn, _⟩ := J1.loc
    have hn : h1.Ns ce.locals m := hn
    rw [cl] at hn
    refine ⟨m, hn, fun h2 sb ce2 hfr2 => ?_⟩
    obtain ⟨mI, hnI, _⟩ := J.loc
    have hnI : sI.heap.Ns ce.locals mI := hnI
    rw [cl] at hnI
    obtain ⟨oC, eC⟩ : ∃ o, sI.heap.get? s3.heap.objs.size = some o := by
      obtain ⟨o, _, _, q, _⟩ := hnI
      exact ⟨o, q⟩
    have hB := nb _ _ eC nC
    have held2 := held_but hB (by rw [← hs]; exact nC) held fun b hb => sb.2 b hb
    have IX : L2.Inv X pins σ H' sI := I3.call' (ch := fp) J.os J.base J.hok J.bare fun b hb => ⟨(f3 b hb).1.2.2.2.1, (f3 b hb).1.2.1, (f3 b hb).1.2.2.2.2.1, (f3 b hb).1.2.2.2.2.2⟩
    have fC : H' s3.heap.objs.size = none := by
      have z : H' ce.locals = none := J.free
      rwa [cl] at z
    obtain ⟨q0, q1, _, q3, q4, q5⟩ := I3.fpOk (Nat.le_refl _) fC
    have IX2 : L2.Inv X pins σ H' { sI with heap := PySem.W.hideAll sI.heap [s3.heap.objs.size] } := IX.turned (t' := sI.toks) (it := s3.heap.objs.size) (fun b o hb e => PySem.W.hideAll_get _ e (by simpa using hb)) q0 (Ne.symm neL) q3 q4 q5
    obtain ⟨x1, x2, x3, oe, vs, T, oT, ts, he, hz, hd, g1, nT, Te, hT, dT, g3⟩ := id held2
    unfold PySem.passOn
    refine wpAny_bind (wpAny_field he hd g1 ?_)
    rw [if_neg (show ¬ ((Value.ref T == Value.none) = true) from by simp)]
    rw [hfr2, hf]
    refine wpAny_bind (setFlight_onZ held2 fun h4 held4 up4 => ?_)
    refine wpAny_throw (tk _ _ ⟨a, PySem.W.hideAll B [s3.heap.objs.size], { sI with heap := PySem.W.hideAll sI.heap [s3.heap.objs.size] }, pins, σ, H', cls, d, rfl, IX2, fun b o hb hn => ?_, fun b o hb hd => ?_, .inr (.inr (by rw [hs]; exact held4)), na, os, ag, hE _ _ _ w⟩)
    · have bC : b ≠ s3.heap.objs.size := fun q => by
        have hb : (PySem.W.hideAll sI.heap [s3.heap.objs.size]).get? b = some o := hb
        rw [PySem.W.hideAll_none _ (by rw [q]; exact List.mem_cons_self)] at hb
        cases hb
      exact PySem.W.hideAll_get _ (nb b o (PySem.W.of_hideAll _ hb) hn) (by simpa using bC)
    · have hb : (PySem.W.hideAll sI.heap [s3.heap.objs.size]).get? b = some o := hb
      have bC : b ≠ s3.heap.objs.size := fun q => by
        rw [PySem.W.hideAll_none _ (by rw [q]; exact List.mem_cons_self)] at hb
        cases hb
      obtain ⟨sl, e1⟩ := (up.trans up1) b o (PySem.W.of_hideAll _ hb) hd
      have e2 : h2.get? b = some { o with slots := sl } := (sb.2 b bC).trans e1
      obtain ⟨sl2, e3⟩ := up4 b _ e2 hd
      exact ⟨sl2, e3⟩
  rcases sky with ⟨k1, k2, k3, oe, vs, he, hz, hd, g1⟩ | fl | hh
  · exact look_newZ Zc.steady hfr (by rw [← hs]; exact k3) hf he k1 k2 hd g1 hz fin
  · obtain ⟨k1, k2, k3, k4⟩ := fl
    exact note_any Zc.steady hfr hf k1 k2 (by rw [← hs]; exact k3) k4 rfl fin
  · obtain ⟨k1, k2, k3, k4⟩ := hh
    refine note_any Zc.steady hfr hf k1 k2 (by rw [← hs]; exact k3) k4 ?_ fin
    show (rawInt (ce.locals : Int) == rawInt (X.env.locals : Int)) = false
    rw [cl]
    have z : ¬ ((s3.heap.objs.size : Int) = (X.env.locals : Int)) := fun q => neL (Int.ofNat.inj q).symm
    simp [rawInt, z]
end
end LcX
/-! part X3 -/
set_option Elab.async false
set_option linter.all false
set_option maxRecDepth 100000
set_option maxHeartbeats 2000000
namespace LcX
open PySem L2 PySem.Spec PyProof.Rows
section
variable {X : Cx} {W : WX}
theorem lc_raise {pins : List (Addr × Obj)} {s : Shared} {σ : L2.St} {H : Hp} {Q : VK} {elt tg iter : Expr} {ifs : List Expr} {scope : Scope} {own : List (Str × Nat)} {pos pos' : Pos} {wi : TI} {g : TG} {tt : TT} {te : TE} {use : Option (Value → Sem Unit)} {Qf : Value → Shared → Prop}
    (hc : X.calm = true) (hN : X.N.Nodup) (hst : X.stack = X.env :: X.outer) (hf : X.env.frame = some X.env.locals) (tk : Takes X fun c d _ H => W c d [] H) (I : L2.Inv X pins σ H s) (hi : PI X tg iter wi) (ok : BlkOk X.N X.env.scope scope own)
    (hg : ∀ (s : Shared) (H : Hp) (C : Addr) (cl : List (Str × Addr)) (fp : List Addr), PG (X.blk s H scope (compEnvC scope cl C X.env) fp) tg g)
    (ht : ∀ (s : Shared) (H : Hp) (C : Addr) (cl : List (Str × Addr)) (fp : List Addr), PTs (X.blk s H scope (compEnvC scope cl C X.env) fp) ifs tt)
    (he : ∀ (s : Shared) (H : Hp) (C : Addr) (cl : List (Str × Addr)) (fp : List Addr) (xe : Value → Shared → Prop), (∀ E0 : XK, (∀ c d H, E0 c d H → W c d [] H) → Passes (L2.CX X.prog X.w) ((X.blk s H scope (compEnvC scope cl C X.env) fp).wish xe) E0) →
      PE ((X.blk s H scope (compEnvC scope cl C X.env) fp).wish xe) elt te)
    (hs : ∀ x, foldedSetIterable iter X.env x = pure x) (h : tLc wi g tt te (own.map (·.2)) σ H Q)
    (hRR : ∀ D C s' m H', L2.Inv X pins σ H' s' → Q (.ref D) H' → s'.heap.Ns C m → FpOk X pins H' C → compPost (model X.prog X.w) X.A X.xe use Qf (.ref D) C (.ok .next) s') :
    wpAny (model X.prog X.w) X.A (comprehension (.ListComp elt [⟨tg, iter, ifs, 0⟩] scope pos) scope X.env pos' (newList []) false (eval iter X.env) use) Qf X.xe s := by
  have free : ∀ y ∈ scope.names, y.2 = .free → ∃ c, X.env.cells.lookup y.1 = some c := fun y hy e => (ok.free y hy e).elim (fun k => I.ok.has _ (.inl k)) fun k => I.ok.has _ (.inr k)
  refine behind_free (use := use) rfl hs (closure_ok free) ok.kind (fun y hy e => by rw [ok.uniq y hy, e]) (thn (hi.run pins s σ H _ I h) fun xv s1 hx => thn hx fun itv s2 h2 => ?_)
  obtain ⟨it, fp, tn, J, H2, e, I2, T, st2, f2, q⟩ := h2
  subst e
  refine wpAny_newObj_type (newEnv_comp ⟨rfl, ?_⟩) (by show 0 ≤ sizeLine; decide)
  generalize hD : s2.heap.objs.size = D
  obtain ⟨W0, ⟨m0, w0⟩, turn⟩ := q D (I2.hok.fresh (Nat.le_of_eq hD))
  generalize hs3 : ({ s2 with heap := s2.heap.push { cls := .type "list", data := .seq ([] : List Value).toArray } } : Shared) = s3
  have I3 : L2.Inv X pins σ (upd H2 D (.lst [])) s3 := by
    rw [← hs3]
    refine I2.laid (t' := s2.toks) (fun b o e => Heap.get?_push_of_some _ e) (Nat.le_of_eq hD) ⟨Nat.zero_le _, [], 0, .nil, ?_⟩
    rw [← hD]
    exact Heap.get?_push_size _ rfl
  have h3 : s3.heap = s2.heap.push { cls := .type "list", data := .seq ([] : List Value).toArray } := by rw [← hs3]
  have f3 : ∀ b ∈ fp, FpOk X pins (upd H2 D (.lst [])) b ∧ b < s3.heap.objs.size := fun b hb => by
    obtain ⟨o, e, _⟩ := T.obj _ _ st2 b hb
    have lt := Heap.lt_size e
    refine ⟨⟨?_, (f2 b hb).2⟩, by rw [h3, Heap.size_push]; exact Nat.lt_succ_of_lt lt⟩
    rw [upd_ne (by rw [← hD]; exact Nat.ne_of_lt lt)]
    exact (f2 b hb).1
  have st3 : tn 0 s3.heap := T.keep _ _ _ st2 fun b _ o e => by rw [h3]; exact Heap.get?_push_of_some _ e
  have I4 := block_start I3 ok hN f3
  have pg := hg s3 (upd H2 D (.lst [])) s3.heap.objs.size (cellsFrom (s3.heap.objs.size + 1) scope.names (cloFrom X.env.cells scope.names [])) fp
  have pt := ht s3 (upd H2 D (.lst [])) s3.heap.objs.size (cellsFrom (s3.heap.objs.size + 1) scope.names (cloFrom X.env.cells scope.names [])) fp
  have pe := he s3 (upd H2 D (.lst [])) s3.heap.objs.size (cellsFrom (s3.heap.objs.size + 1) scope.names (cloFrom X.env.cells scope.names [])) fp
  show codeAny _ _ (.compStart (.ListComp elt [⟨tg, iter, ifs, 0⟩] scope pos) 0 (.ref it) (.ref D) (compEnvC scope (cellsFrom (s3.heap.objs.size + 1) scope.names (cloFrom X.env.cells scope.names [])) s3.heap.objs.size X.env))
    (Behind (model X.prog X.w) X.A X.xe use Qf X.env.frame (.ref D) s3.heap.objs.size) { s3 with heap := pushCells (s3.heap.push { cls := .type "dict", data := .dict #[] }) scope.names }
  have nfp : ∀ b ∈ fp, (upd H2 D (.lst [])) b = none := fun b hb => (f3 b hb).1.1
  have cF : (compEnvC scope (cellsFrom (s3.heap.objs.size + 1) scope.names (cloFrom X.env.cells scope.names [])) s3.heap.objs.size X.env).frame = X.env.frame := rfl
  have cL : (compEnvC scope (cellsFrom (s3.heap.objs.size + 1) scope.names (cloFrom X.env.cells scope.names [])) s3.heap.objs.size X.env).locals = s3.heap.objs.size := rfl
  generalize compEnvC scope (cellsFrom (s3.heap.objs.size + 1) scope.names (cloFrom X.env.cells scope.names [])) s3.heap.objs.size X.env = ce at I4 pg pt pe cF cL ⊢
  generalize upd H2 D (.lst []) = H3 at I3 I4 pg pt pe w0 nfp f3
  have pe := pe (inner X ce use Qf D s3.heap.objs.size) fun E0 hE => pass_in hst hf tk I3 cF cL f3 hE
  generalize hs4 : ({ s3 with heap := pushCells (s3.heap.push { cls := .type "dict", data := .dict #[] }) scope.names } : Shared) = s4 at I4 ⊢
  have st4 : tn 0 s4.heap := T.keep _ _ _ st3 fun b _ o e => by rw [← hs4]; exact pushCells_keeps _ _ _ _ (Heap.get?_push_of_some _ e)
  have stat : ∀ {σ' : L2.St} {H' : Hp} {s' : Shared}, L2.Inv (X.blk s3 H3 scope ce fp) [] σ' H' s' → (∀ b ∈ fp, H' b = none) → ∀ b ∈ fp, FpOk (X.blk s3 H3 scope ce fp) [] H' b := fun {σ' H' s'} I' hn b hb =>
    ⟨hn b hb, (I'.ok.exf b hb).1, I'.ok.exfs b hb, .inl hb, fun x c e => (I'.ok.exf b hb).2 x c e, fun p hp => absurd (show p ∈ ([] : List (Addr × Obj)) ++ [] from hp) (by simp)⟩
  have loop : codeAny (model X.prog X.w) X.A (.compLoop (.ListComp elt [⟨tg, iter, ifs, 0⟩] scope pos) 0 (.ref it) (.ref D) ce) (Behind (model X.prog X.w) X.A X.xe use Qf X.env.frame (.ref D) s3.heap.objs.size) s4 := by
    refine compLoop_any (fun n s' => ∃ i H', L2.Inv (X.blk s3 H3 scope ce fp) [] (wipe σ (own.map (·.2))) H' s' ∧ tn i s'.heap ∧ (∀ b ∈ fp, H' b = none) ∧ W0 i n H') ?_ m0 ⟨0, H3, I4, st4, nfp, w0⟩
    rintro n s5 ⟨i, H5, I5, st5, n5, w5⟩
    rcases turn i n H5 w5 with ⟨stop, qq⟩ | ⟨go, Nx, hNx, step⟩
    · refine thnF (T.done (X.blk s3 H3 scope ce fp) rfl rfl rfl hc i [] s5 _ H5 (fun _ _ => False) I5 (stat I5 n5) st5 stop) fun r s6 ⟨hr, I6⟩ => ?_
      subst hr
      have I7 : L2.Inv X pins σ H5 s6 := I3.call' (ch := fp) I6.os I6.base I6.hok I6.bare fun b hb => ⟨(f3 b hb).1.2.2.2.1, (f3 b hb).1.2.1, (f3 b hb).1.2.2.2.2.1, (f3 b hb).1.2.2.2.2.2⟩
      have nC : H5 s3.heap.objs.size = none := by
        have z : H5 ce.locals = none := I6.free
        rwa [cL] at z
      obtain ⟨m, hn, _⟩ := I6.loc
      have hn : s6.heap.Ns ce.locals m := hn
      rw [cL] at hn
      exact hRR D s3.heap.objs.size s6 m H5 I7 qq hn (I3.fpOk (Nat.le_refl _) nC)
    · refine thnF (T.item (X.blk s3 H3 scope ce fp) rfl rfl rfl hc i [] s5 _ H5 (fun _ _ => False) I5 (stat I5 n5) st5 go) fun r s6 ⟨u, hr, h6⟩ => ?_
      subst hr
      refine thnF h6 fun _ s7 ⟨x, H7, I7, r7, y7, st7, n7⟩ => ?_
      refine thnF (pg.run _ s7 _ H7 x u _ (I7.pinned (stat I7 n7) (T.obj _ _ st7)) r7 (step x H7 y7)) fun _ s8 ⟨σ8, H8, I8, hw8, q8⟩ => ?_
      refine thnF (pt.run _ s8 σ8 H8 _ I8 q8) fun b s9 ⟨H9, I9, q9⟩ => ?_
      have fin : ∀ {s' : Shared} {H' : Hp}, L2.Inv (X.blk s3 H3 scope ce fp) ([] ++ pinsAt fp s7.heap) σ8 H' s' → Nx H' → ∃ m, m < n ∧ ∃ i H', L2.Inv (X.blk s3 H3 scope ce fp) [] (wipe σ (own.map (·.2))) H' s' ∧ tn i s'.heap ∧ (∀ b ∈ fp, H' b = none) ∧ W0 i m H' := fun {s' H'} I' nx => by
        obtain ⟨m', hm, w'⟩ := hNx H' nx
        have pin' : ∀ b ∈ fp, ∀ o, s7.heap.get? b = some o → s'.heap.get? b = some o ∧ H' b = none := fun b hb o e =>
          have z := I'.pin (b, o) (List.mem_append_right _ (List.mem_append_right _ (mem_pinsAt hb e)))
          ⟨z.1, z.2.1⟩
        refine ⟨m', hm, i + 1, H', (I'.unpinned (pins := [])).weak (by rw [← hw8, wipe_length]) (fun j v e => ?_), T.keep _ _ _ st7 fun b hb o e => (pin' b hb o e).1, fun b hb => ?_, w'⟩
        · rw [← hw8] at e
          exact (wipe_some e).1
        · obtain ⟨o, e, _⟩ := T.obj _ _ st7 b hb
          exact (pin' b hb o e).2
      cases b with
      | false =>
        simp only [Bool.false_eq_true, if_false] at q9 ⊢
        exact fin I9 q9
      | true =>
        simp only [if_true] at q9 ⊢
        refine thn (pe.run _ s9 σ8 H9 _ (I9.wish _) q9) fun z s10 ⟨yv, H10, I10, r10, acc, hD10, hz10, nx⟩ => ?_
        exact app_ok (X := X.blk s3 H3 scope ce fp) I10.unwish hD10 hz10 r10 fun s11 I11 => fin I11 nx
  exact codeAny_compStart_list loop (T.self X.A 0 _ _ _ st4 loop)
/-- name = [..], the name a local, the element may raise -/
theorem ps_setLcX {i : Nat} {y : Str} {py : Pos} {elt tg iter : Expr} {ifs : List Expr} {scope : Scope} {own : List (Str × Nat)} {pos spos : Pos} {wi : TI} {g : TG} {tt : TT} {te : TE} (hc : X.calm = true) (hN : X.N.Nodup) (hst : X.stack = X.env :: X.outer) (hf : X.env.frame = some X.env.locals)
    (tk : Takes X fun c d _ H => W c d [] H) (hy : X.N[i]? = some y) (hyl : X.env.scope.names.lookup y = some .local) (hsw : swapsWith (.ListComp elt [⟨tg, iter, ifs, 0⟩] scope pos) (some (.Name y py)) spos.line X.env = pure true) (hi : PI X tg iter wi) (ok : BlkOk X.N X.env.scope scope own)
    (hg : ∀ (s : Shared) (H : Hp) (C : Addr) (cl : List (Str × Addr)) (fp : List Addr), PG (X.blk s H scope (compEnvC scope cl C X.env) fp) tg g)
    (ht : ∀ (s : Shared) (H : Hp) (C : Addr) (cl : List (Str × Addr)) (fp : List Addr), PTs (X.blk s H scope (compEnvC scope cl C X.env) fp) ifs tt)
    (he : ∀ (s : Shared) (H : Hp) (C : Addr) (cl : List (Str × Addr)) (fp : List Addr) (xe : Value → Shared → Prop), (∀ E0 : XK, (∀ c d H, E0 c d H → W c d [] H) → Passes (L2.CX X.prog X.w) ((X.blk s H scope (compEnvC scope cl C X.env) fp).wish xe) E0) →
      PE ((X.blk s H scope (compEnvC scope cl C X.env) fp).wish xe) elt te)
    (hs : ∀ x, foldedSetIterable iter X.env x = pure x := by intro _; rfl) : PS X (.Assign [.Name y py] (.ListComp elt [⟨tg, iter, ifs, 0⟩] scope pos) spos) (tAsg (tLc wi g tt te (own.map (·.2))) (gName i)) := by
  refine ⟨fun pins s σ H D I h => ?_⟩
  rw [exec_Assign_Name_used _ _ _ _ hsw]
  refine wpAny_bind (wpAny_standAt (wpAny_bind ?_))
  show wpAny _ X.A (do let _ ← comprehension (.ListComp elt [⟨tg, iter, ifs, 0⟩] scope pos) scope X.env (firstIterPos [⟨tg, iter, ifs, 0⟩] pos) (newList []) false (eval iter X.env) (some (assign (.Name y py) X.env))) _ _ s
  have h : tLc wi g tt te (own.map (·.2)) σ H (fun x H1 => gName i x σ H1 D.nx) := h
  refine wpAny_bind (thn (lc_raise (Qf := fun _ s' => SP X pins D .next s') hc hN hst hf tk I hi ok hg ht he hs h fun L C s' m H' I' q hn f => ?_) fun _ s' hq => wpAny_pure (wpAny_pure hq))
  show wpAny _ _ (assign (.Name y py) X.env (.ref L)) _ _ _
  refine wpAny_assign_Name (store_ok2 (v := V.ref L) I' hN hy (.inl hyl) rfl (fun s2 I2 ⟨a, sb, ha⟩ => ?_) (.inr hyl))
  obtain ⟨f0, f1, f2, f3, f4, f5⟩ := f
  have nCa : C ≠ a := ha.elim (fun z => by rw [z]; exact f1) fun z e => f4 y a z e.symm
  refine ⟨m, hn.sameBut sb nCa, fun h3 sb3 => ?_⟩
  exact ⟨_, H', I2.turned (t' := s2.toks) (fun b o hb e => (sb3.2 b hb).trans e) f0 f1 f3 f4 f5, q⟩
end
end LcX
/-! part B8 -/
set_option Elab.async false
set_option linter.all false
set_option maxRecDepth 100000
namespace Rdr
open PySem L2
theorem eqV_str (a b : Str) : eqV (.str a) (.str b) = decide (a = b) := by
  show (a == b) = decide (a = b)
  by_cases h : a = b
  · subst h; simp
  · simp [h]
theorem in_wlist {x : Str} : ∀ {ws : List Str}, inV (.str x) (wlist ws) = ws.contains x
  | [] => rfl
  | y :: r => by
    have ih := in_wlist (x := x) (ws := r)
    show (eqV (.str y) (.str x) || inV (.str x) (wlist r)) = (y :: r).contains x
    rw [ih, eqV_str, List.contains_cons]
    by_cases h : y = x
    · subst h; simp
    · simp [h, Ne.symm h]
theorem flat_wlist : ∀ {ws : List Str}, (wlist ws).all flatV = true
  | [] => rfl
  | _ :: r => by
    show (true && (wlist r).all flatV) = true
    rw [flat_wlist]
    rfl
theorem first_at {x : Str} : ∀ {ws : List Str}, ws.contains x = true → ∃ j, ws[j]? = some x ∧ ws.findIdx (· = x) = j ∧ ∀ (m : Nat) (z : Str), m < j → ws[m]? = some z → z ≠ x
  | [], h => by simp at h
  | y :: r, h => by
    by_cases e : y = x
    · refine ⟨0, by rw [e]; rfl, by simp [List.findIdx_cons, e], fun m z hm _ => by omega⟩
    · have h' : r.contains x = true := by
        rw [List.contains_cons] at h
        simpa [Ne.symm e] using h
      obtain ⟨j, h1, h2, h3⟩ := first_at h'
      refine ⟨j + 1, by simpa using h1, by simp [List.findIdx_cons, e, h2], fun m z hm hz => ?_⟩
      cases m with
      | zero => simp at hz; rw [← hz]; exact e
      | succ m => exact h3 m z (by omega) (by simpa using hz)
theorem idx_wlist {x : Str} {ws : List Str} (h : ws.contains x = true) : ∃ (j : Nat) (z : V), (wlist ws)[j]? = some z ∧ eqV z (.str x) = true ∧ ws.findIdx (· = x) = j ∧ j < ws.length ∧ (∀ (m : Nat) (z' : V), m < j → (wlist ws)[m]? = some z' → eqV z' (.str x) = false) := by
  obtain ⟨j, h1, h2, h3⟩ := first_at h
  refine ⟨j, .str x, by rw [List.getElem?_map, h1]; rfl, by rw [eqV_str]; simp, h2, (List.getElem?_eq_some_iff.mp h1).1, fun m z' hm hz => ?_⟩
  rw [List.getElem?_map] at hz
  cases e : ws[m]? with
  | none => rw [e] at hz; cases hz
  | some z =>
    rw [e] at hz
    cases hz
    rw [eqV_str]
    simp [h3 m z hm e]
theorem val_cons {k : Key} {v : V} {r : List (Key × V)} {x : Key} : valV ((k, v) :: r) x = if k = x then some v else valV r x := by
  unfold valV
  rw [List.find?_cons]
  by_cases h : k = x
  · simp [h]
  · simp [h]
theorem look_cons {β : Type} {k : Str} {v : β} {r : List (Str × β)} {x : Str} : List.lookup x ((k, v) :: r) = if k = x then some v else List.lookup x r := by
  rw [List.lookup_cons]
  by_cases h : k = x
  · subst h; simp
  · have : (x == k) = false := by simpa using Ne.symm h
    rw [this]
    simp [h]
theorem fd_get {H : Hp} {M : List Addr} {x : Str} : ∀ {kvs : List (Key × V)} {cs : List (Str × List Str)}, Paired (FdAt H M) kvs cs →
    (∀ ws, cs.lookup x = some ws → ∃ t, valV kvs (.inr x : Key) = some (.ref t) ∧ Fix H M t (.lst (wlist ws))) ∧ (cs.lookup x = none → valV kvs (.inr x : Key) = none)
  | _, _, .nil => ⟨fun ws h => (by cases h), fun _ => rfl⟩
  | (k, v) :: _, (n, ws) :: _, .cons ⟨e, t, ev, f⟩ r => by
    obtain ⟨i1, i2⟩ := fd_get (x := x) r
    have e : k = .inr n := e
    have ev : v = .ref t := ev
    subst e ev
    refine ⟨fun ws' h => ?_, fun h => ?_⟩
    · rw [look_cons] at h
      rw [val_cons]
      by_cases hn : n = x
      · rw [if_pos hn] at h
        cases h
        rw [if_pos (by rw [hn])]
        exact ⟨t, rfl, f⟩
      · rw [if_neg hn] at h
        rw [if_neg (fun z => hn (Sum.inr.inj z))]
        exact i1 ws' h
    · rw [look_cons] at h
      rw [val_cons]
      by_cases hn : n = x
      · rw [if_pos hn] at h; cases h
      · rw [if_neg hn] at h
        rw [if_neg (fun z => hn (Sum.inr.inj z))]
        exact i2 h
theorem ch_get {H : Hp} {M : List Addr} {x : Str} : ∀ {kvs : List (Key × V)} {cs : List (Str × List Str)}, Paired (ChAt H M) kvs cs →
    (∀ ws, cs.lookup x = some ws → ∃ t, valV kvs (.inr x : Key) = some (.ref t) ∧ Fix H M t (.tup (wlist ws))) ∧ (cs.lookup x = none → valV kvs (.inr x : Key) = none)
  | _, _, .nil => ⟨fun ws h => (by cases h), fun _ => rfl⟩
  | (k, v) :: _, (n, ws) :: _, .cons ⟨e, t, ev, f⟩ r => by
    obtain ⟨i1, i2⟩ := ch_get (x := x) r
    have e : k = .inr n := e
    have ev : v = .ref t := ev
    subst e ev
    refine ⟨fun ws' h => ?_, fun h => ?_⟩
    · rw [look_cons] at h
      rw [val_cons]
      by_cases hn : n = x
      · rw [if_pos hn] at h
        cases h
        rw [if_pos (by rw [hn])]
        exact ⟨t, rfl, f⟩
      · rw [if_neg hn] at h
        rw [if_neg (fun z => hn (Sum.inr.inj z))]
        exact i1 ws' h
    · rw [look_cons] at h
      rw [val_cons]
      by_cases hn : n = x
      · rw [if_pos hn] at h; cases h
      · rw [if_neg hn] at h
        rw [if_neg (fun z => hn (Sum.inr.inj z))]
        exact i2 h
def refOk (S : Rd) (t : Str) : Bool := S.near.contains (Txt.partition t ".").1 && ((S.fields.lookup (Txt.partition t ".").1).getD []).contains (Txt.partition t ".").2.2
end Rdr
namespace K7
open PySem L2 Rdr
abbrev sRefOf : Stmt := inClass (top 21) 14
/-- a REF: a pair, the heap grown; or the line is wrong -/
def spRefOf (C cB : Addr) : Sp := fun vs H Q E => ∃ (r : Addr) (A : Adr) (S : Rd) (t : Str), vs = [.ref r, .str t] ∧ RdAt C H r A S ∧ Fine S ∧ okw t = true ∧
  (refOk S t = true → ∀ (p : Addr) (H' : Hp) (a b : V), Same H H' → H' p = some (.tup [a, b]) → Q (.ref p) H') ∧ (refOk S t = false → Bad cB E (A.own r) H ((S.pos : Int) + 1))
theorem Bad.before {cB : Addr} {E : XK} {M : List Addr} {H H1 : Hp} {n : Int} (b : Bad cB E M H n) (k : But M H H1) : Bad cB E M H1 n := fun d H' hd hb hx => b d H' (k.free d hd) (k.trans hb) hx
theorem okw_le {x : Str} (h : okw x = true) : x.length ≤ 20000 := by
  unfold okw at h
  exact of_decide_eq_true (Bool.and_eq_true_iff.mp h).1
section
variable {P : Program} {w : World} {K : PySem.W.Frag} {mg : Str → Option Value} {base : Heap} {C cB fB : Addr} {fdB : FuncData}
theorem sc_refOf : FnScope ["self", "text", "kind", "_", "field"] ["self", "text"] (defScope sRefOf) := ⟨rfl, rfl, rfl, by decide +kernel, rfl, by decide +kernel, by decide +kernel⟩
theorem ok_refOf {f : Addr} {fd : FuncData} (F : Fun K "ref_of" "ProgramReader.ref_of" sRefOf f fd) (T : RT K mg C cB fB fdB) (Gn : MOk P w K mg base 3 C "need" (spNeed C cB)) : FnOk P w K mg base (L2.CX P w) 4 f fd ["self", "text"] (spRefOf C cB) := by
  refine F.okX sc_refOf (fun vs H Q E h => ?_) (fun cdv A outer s H vs Q E hr h => ?_)
  · obtain ⟨r, A, S, t, rfl, _⟩ := h
    rfl
  · obtain ⟨r, A, S, t, rfl, R, S1, ht, k1, k2⟩ := h
    have hu := hu_of hr
    have tl := okw_le ht
    refine ⟨_, pss_cons (ps_asg (pe_partition (pv 1) pe_str) (pg_tup rfl (pgs_cons (pg_name (i := 2) sc_refOf.nd rfl (Or.inl rfl)) (pgs_cons (pg_name (i := 3) sc_refOf.nd rfl (Or.inl rfl)) (pgs_cons (pg_name (i := 4) sc_refOf.nd rfl (Or.inl rfl)) pgs_nil)))))
      (pss_cons (ps_expr (m_meth (pv 0) T.cl Gn hr (passes_call (takes_of rfl rfl rfl rfl) (fun _ _ _ _ z => z)) (pa_cons (pe_and (pe_cmpR op_in_seq (pv 2) (pe_fld (pv 0) rfl) rfl) (pe_one (pe_cmpR op_in_seq (pv 4) (pe_dget hu (pe_fld (pv 0) rfl) (pv 2) (fun _ _ => rfl)) rfl))) pa_nil)))
      (pss_one (ps_ret (pe_tup (pa_cons (pv 2) (pa_cons (pe_bm PySem.F.plainAttrs_list PySem.F.slot_list_index PySem.F.type_list_index mt_index (pe_dget hu (pe_fld (pv 0) rfl) (pv 2) (fun _ _ => rfl)) (pa_cons (pv 4) pa_nil)) pa_nil)))))), ?_⟩
    refine ⟨_, rfl, ⟨_, rfl⟩, _, _, rfl, rfl, (by decide), le_line (by omega), fun q nq => ?_⟩
    refine ⟨q, _, rfl, SqT.of upd_same, rfl, _, _, rfl, _, _, rfl, _, _, rfl, rfl, ?_⟩
    generalize hH1 : upd H q _ = H1
    have s1 : Same H H1 := by rw [← hH1]; exact Same.new nq
    have R1 := R.same s1
    obtain ⟨dx, ob⟩ := R1.ob
    obtain ⟨kvs, f1, f2⟩ := R1.fd
    refine ⟨_, rfl, r, dx, _, rfl, ob, noMeth (by decide +kernel), _, rfl, _, rfl, r, C, dx, _, _, rfl, ob, T.cl, T.near, rfl, _, _, rfl, .inr (SqT.of R1.nr.1), rfl, flat_wlist, _, rfl, ?_⟩
    have e1 : (if false = true then !inV (V.str (Txt.partition t ".").1) (wlist S.near) else inV (V.str (Txt.partition t ".").1) (wlist S.near)) = S.near.contains (Txt.partition t ".").1 := in_wlist
    refine ite2 (fun h1 => ?_) (fun h1 => ?_)
    · rw [e1] at h1
      have hk := S1.nf.2 _ (List.contains_iff_mem.mp h1)
      obtain ⟨ws, hws⟩ := Option.isSome_iff_exists.mp hk
      obtain ⟨fa, hv, hf⟩ := (fd_get f2).1 ws hws
      have dg : DGet H1 A.fd (.str (Txt.partition t ".").1) (some (.ref fa)) := by
        rw [← hv]
        exact DGet.k (k := Sum.inr (Txt.partition t ".").1) f1
      refine ⟨_, rfl, _, rfl, r, C, dx, _, _, rfl, ob, T.cl, T.fields, rfl, _, rfl, A.fd, _, rfl, dg, _, _, rfl, .inl (SqL.of hf.1), rfl, flat_wlist, ?_⟩
      have e2 : (if false = true then !inV (V.str (Txt.partition t ".").2.2) (wlist ws) else inV (V.str (Txt.partition t ".").2.2) (wlist ws)) = ws.contains (Txt.partition t ".").2.2 := in_wlist
      rw [e2]
      have e3 : refOk S t = ws.contains (Txt.partition t ".").2.2 := by
        unfold refOk
        rw [h1, hws]
        rfl
      refine ⟨r, A, S, _, rfl, R1, fun hb => ?_, fun hb => (k2 (by rw [e3]; exact hb)).before (.of s1)⟩
      obtain ⟨j, z, g1, g2, _, _, g3⟩ := idx_wlist hb
      refine ⟨_, rfl, _, rfl, r, C, dx, _, _, rfl, ob, T.cl, T.fields, rfl, _, rfl, A.fd, _, rfl, dg, .inl ⟨rfl, _, SqL.of hf.1⟩, _, rfl, fa, _, _, j, z, rfl, rfl, SqL.of hf.1, rfl, flat_wlist, g1, g2, g3, (by show 2 ≤ sizeLine; decide), fun p np => ?_⟩
      exact k1 (by rw [e3]; exact hb) p _ _ _ (s1.trans (Same.new np)) upd_same
    · rw [e1] at h1
      have h1 : S.near.contains (Txt.partition t ".").1 = false := by simpa using h1
      have e3 : refOk S t = false := by
        unfold refOk
        rw [h1]
        rfl
      exact ⟨r, A, S, false, rfl, R1, fun hb => Bool.noConfusion hb, fun _ => (k2 e3).before (.of s1)⟩
end
end K7
/-! part B9 -/
set_option Elab.async false
set_option linter.all false
set_option maxRecDepth 100000
namespace Rdr
open PySem L2
def cellOk (S : Rd) (c d : Str) : Bool := S.cells.contains c && (digits (S.worths.getD (S.cells.findIdx (· = c)) 0)).contains d
end Rdr
namespace K7
open PySem L2 Rdr
abbrev sCellWorth : Stmt := inClass (top 21) 13
def spCellWorth (C cB : Addr) : Sp := fun vs H Q E => ∃ (r : Addr) (A : Adr) (S : Rd) (c d : Str), vs = [.ref r, .str c, .str d] ∧ RdAt C H r A S ∧ Fine S ∧
  (cellOk S c d = true → ∀ (p : Addr) (H' : Hp) (a b : V), Same H H' → H' p = some (.tup [a, b]) → Q (.ref p) H') ∧ (cellOk S c d = false → Bad cB E (A.own r) H ((S.pos : Int) + 1))
def dgt (k : Nat) : Str := toString ((0 : Int) + (k : Int))
section
variable {P : Program} {w : World} {K : PySem.W.Frag} {mg : Str → Option Value} {base : Heap} {C cB fB : Addr} {fdB : FuncData}
theorem sc_cellWorth : FnScope ["self", "cell", "digit", "number", "worth"] ["self", "cell", "digit"] (defScope sCellWorth) := ⟨rfl, rfl, rfl, by decide +kernel, rfl, by decide +kernel, by decide +kernel⟩
theorem ok_cellWorth {f : Addr} {fd : FuncData} (F : Fun K "cell_worth" "ProgramReader.cell_worth" sCellWorth f fd) (T : RT K mg C cB fB fdB) (Gn : MOk P w K mg base 3 C "need" (spNeed C cB)) : FnOk P w K mg base (L2.CX P w) 4 f fd ["self", "cell", "digit"] (spCellWorth C cB) := by
  refine F.okX sc_cellWorth (fun vs H Q E h => ?_) (fun cdv A outer s H vs Q E hr h => ?_)
  · obtain ⟨r, A, S, c, d, rfl, _⟩ := h
    rfl
  · obtain ⟨r, A, S, c, d, rfl, R, S1, k1, k2⟩ := h
    refine ⟨_, pss_cons (ps_expr (m_meth (pv 0) T.cl Gn hr (passes_call (takes_of rfl rfl rfl rfl) (fun _ _ _ _ z => z)) (pa_cons (pe_cmpR op_in_seq (pv 1) (pe_fld (pv 0) rfl) rfl) pa_nil)))
      (pss_cons (ps_set (i := 3) sc_cellWorth.nd rfl (Or.inl rfl) (pe_bm PySem.F.plainAttrs_list PySem.F.slot_list_index PySem.F.type_list_index mt_index (pe_fld (pv 0) rfl) (pa_cons (pv 1) pa_nil)))
      (pss_cons (ps_expr (m_meth (pv 0) T.cl Gn hr (passes_call (takes_of rfl rfl rfl rfl) (fun _ _ _ _ z => z)) (pa_cons (pe_cmpR op_in_seq (pv 2)
        (pe_lc (own := [("worth", 4)]) (g := gName 4) (tt := tYes) rfl sc_cellWorth.nd (pi_range1 rfl T.range (pa_cons (pe_ix ix_list (pe_fld (pv 0) rfl) (pv 3) (fun _ _ => rfl)) pa_nil)) (blkOk_by (N := ["self", "cell", "digit", "number", "worth"]) (sc := defScope sCellWorth) (by decide +kernel))
          (fun _ _ _ _ _ => pg_name (i := 4) sc_cellWorth.nd rfl (Or.inl rfl)) (fun _ _ _ _ _ => pts_nil) (fun _ _ _ _ _ => pe_callTy call_str_int (by rfl) T.str (by decide +kernel) (pa_cons (pv 4) pa_nil))) rfl) pa_nil)))
      (pss_one (ps_ret (pe_tup (pa_cons (pv 3) (pa_cons (pe_callTy call_int_str (by rfl) T.int (by decide +kernel) (pa_cons (pv 2) pa_nil)) pa_nil))))))), ?_⟩
    obtain ⟨dx, ob⟩ := R.ob
    refine ⟨_, rfl, r, dx, _, rfl, ob, noMeth (by decide +kernel), _, rfl, _, rfl, r, C, dx, _, _, rfl, ob, T.cl, T.cells, rfl, _, _, rfl, .inl (SqL.of R.cl), rfl, flat_wlist, r, A, S, _, rfl, R, fun hb => ?_, fun hb => k2 ?_⟩
    · have e1 : (if false = true then !inV (V.str c) (wlist S.cells) else inV (V.str c) (wlist S.cells)) = S.cells.contains c := in_wlist
      rw [e1] at hb
      obtain ⟨j, z, g1, g2, g0, gl, g3⟩ := idx_wlist hb
      refine ⟨_, rfl, r, C, dx, _, _, rfl, ob, T.cl, T.cells, rfl, .inl ⟨rfl, _, SqL.of R.cl⟩, _, rfl, A.cl, _, _, j, z, rfl, rfl, SqL.of R.cl, rfl, flat_wlist, g1, g2, g3, ?_⟩
      obtain ⟨w1, w2, w3⟩ := S1.w
      have hj : j < S.worths.length := by omega
      obtain ⟨wo, hwo⟩ : ∃ wo, S.worths[j]? = some wo := ⟨_, List.getElem?_eq_getElem hj⟩
      have hwv : wo = 2 ∨ wo = 3 := w3 _ (List.mem_of_getElem? hwo)
      have hix : (ilist S.worths)[j]? = some (V.int wo) := by rw [List.getElem?_map, hwo]; rfl
      have ec : cellOk S c d = (digits wo).contains d := by
        unfold cellOk
        rw [hb, g0, List.getD_eq_getElem?_getD, hwo]
        rfl
      obtain ⟨n, hn, hn3, hd⟩ : ∃ n : Nat, wo = (n : Int) ∧ n ≤ 3 ∧ (List.range n).map dgt = digits wo := by
        rcases hwv with rfl | rfl
        · exact ⟨2, rfl, by decide, by decide +kernel⟩
        · exact ⟨3, rfl, by decide, by decide +kernel⟩
      refine ⟨_, rfl, r, dx, _, rfl, ob, noMeth (by decide +kernel), _, rfl, _, rfl, r, C, dx, _, _, rfl, ob, T.cl, T.worths, rfl, _, rfl, A.wl, _, _, _, rfl, rfl, SqL.of R.wl, atI_nat hix, wo, rfl, by omega, by omega, fun D nD => ?_⟩
      rw [show wo.toNat = n by omega]
      refine lc_range (lo := 0) (n := n) (fun i H' => Same H H' ∧ H' D = some (.lst (wlist ((List.range i).map dgt)))) ⟨Same.new nD, upd_same⟩ (fun i H1 hi ⟨s1, d1⟩ => ?_) (fun H1 ⟨s1, d1⟩ => ?_)
      · refine ⟨rfl, _, rfl, _, rfl, ?_, _, d1, ?_, fun b o hb => ?_, ?_⟩
        · have : ((0 : Int) + (i : Int)).natAbs < 2 ^ 3 := by omega
          have z := PySem.Flt.log2_lt_of (by decide) this
          omega
        · have := le_line (n := 20002) (by omega)
          simp only [List.length_map, List.length_range]
          omega
        · rw [upd_ne (ne_of_none hb nD)]
          exact s1 _ _ hb
        · rw [upd_same, List.range_succ, List.map_append]
          simp only [wlist, List.map_append]
          rfl
      · rw [hd] at d1
        refine ⟨_, _, rfl, .inl (SqL.of d1), rfl, flat_wlist, r, A, S, _, rfl, R.same s1, fun hb2 => ?_, fun hb2 => ?_⟩
        · have e2 : (if false = true then !inV (V.str d) (wlist (digits wo)) else inV (V.str d) (wlist (digits wo))) = (digits wo).contains d := in_wlist
          rw [e2] at hb2
          obtain ⟨m, hm, hml⟩ : ∃ m, PySem.intText? d = some m ∧ d.length ≤ 640 := by
            have hmem := List.contains_iff_mem.mp hb2
            rcases hwv with rfl | rfl
            · have : d = "0" ∨ d = "1" := by simpa [digits] using hmem
              rcases this with rfl | rfl
              · exact ⟨0, by decide +kernel, by decide⟩
              · exact ⟨1, by decide +kernel, by decide⟩
            · have : d = "0" ∨ d = "1" ∨ d = "2" := by simpa [digits] using hmem
              rcases this with rfl | rfl | rfl
              · exact ⟨0, by decide +kernel, by decide⟩
              · exact ⟨1, by decide +kernel, by decide⟩
              · exact ⟨2, by decide +kernel, by decide⟩
          refine ⟨_, rfl, _, rfl, d, m, rfl, hm, hml, (by show 2 ≤ sizeLine; decide), fun p np => ?_⟩
          exact k1 (by rw [ec]; exact hb2) p _ _ _ (s1.trans (Same.new np)) upd_same
        · have e2 : (if false = true then !inV (V.str d) (wlist (digits wo)) else inV (V.str d) (wlist (digits wo))) = (digits wo).contains d := in_wlist
          rw [e2] at hb2
          exact (k2 (by rw [ec]; exact hb2)).before (.of s1)
    · have e1 : (if false = true then !inV (V.str c) (wlist S.cells) else inV (V.str c) (wlist S.cells)) = S.cells.contains c := in_wlist
      rw [e1] at hb
      unfold cellOk
      rw [hb]
      rfl
end
end K7
/-! part C1 -/
set_option Elab.async false
set_option linter.all false
set_option maxRecDepth 100000
namespace Rdr
open PySem L2
def tokOk (S : Rd) (t : Str) : Bool := word t || refOk S t
theorem need_eq {A : Type} {S : Rd} {b : Bool} {r : Res A} : S.need b r = if b = true then r else .bad ((S.pos : Int) + 1) := by
  unfold Rd.need
  cases b <;> rfl
theorem need_need {A : Type} {S : Rd} {a b : Bool} {r : Res A} : S.need a (S.need b r) = S.need (a && b) r := by
  unfold Rd.need
  cases a <;> cases b <;> rfl
theorem tokensM_eq {A : Type} {S : Rd} {r : Res A} : ∀ {ts : List Str}, tokensM S ts r = S.need (ts.all (tokOk S)) r
  | [] => rfl
  | t :: ts => by
    have ih := tokensM_eq (S := S) (r := r) (ts := ts)
    show (if word t = true then tokensM S ts r else refM S t (tokensM S ts r)) = S.need (tokOk S t && ts.all (tokOk S)) r
    rw [ih]
    have e : tokOk S t = (word t || refOk S t) := rfl
    rw [e]
    cases h : word t with
    | true => simp
    | false =>
      simp only [Bool.false_eq_true, if_false, Bool.false_or]
      show S.need (refOk S t) (S.need (ts.all (tokOk S)) r) = S.need (refOk S t && ts.all (tokOk S)) r
      rw [need_need]
def wOk (S : Rd) (l : Str) (ts : List Str) : Bool := word l && (!S.labels.contains l && (decide (ts.length ≤ 6) && ts.all (tokOk S)))
theorem writeM_eq {S : Rd} {l : Str} {ts : List Str} : writeM S l ts = S.need (wOk S l ts) (.ok { S with labels := S.labels ++ [l] }) := by
  unfold writeM wOk
  rw [tokensM_eq, need_need]
  simp only [Bool.and_assoc]
end Rdr
namespace K7
open PySem L2 Rdr LcX
abbrev sWrite : Stmt := inClass (top 21) 12
structure RC (mg : Str → Option Value) : Prop where
  MOST_KINDS : ∃ t, mg "MOST_KINDS" = some (.int 4 t)
  MOST_KINDS_IN_ONE_ANOTHER : ∃ t, mg "MOST_KINDS_IN_ONE_ANOTHER" = some (.int 3 t)
  MOST_FIELDS : ∃ t, mg "MOST_FIELDS" = some (.int 2 t)
  MOST_PASSES : ∃ t, mg "MOST_PASSES" = some (.int 2 t)
  MOST_CELLS : ∃ t, mg "MOST_CELLS" = some (.int 2 t)
  MOST_STATEMENTS : ∃ t, mg "MOST_STATEMENTS" = some (.int 6 t)
  MOST_IFS_IN_ONE_ANOTHER : ∃ t, mg "MOST_IFS_IN_ONE_ANOTHER" = some (.int 2 t)
  MOST_TOKENS : ∃ t, mg "MOST_TOKENS" = some (.int 6 t)
def spWrite (C cB : Addr) : Sp := fun vs H Q E => ∃ (r tk : Addr) (A : Adr) (S : Rd) (l kd : Str) (ts : List Str), vs = [.ref r, .str l, .str kd, .ref tk] ∧ RdAt C H r A S ∧ Fine S ∧ H tk = some (.lst (wlist ts)) ∧ okw l = true ∧ ts.length ≤ 20000 ∧ (∀ x ∈ ts, okw x = true) ∧
  (wOk S l ts = true → ∀ (p : Addr) (xs : List V) (H' : Hp), But (A.own r) H H' → RdAt C H' r A { S with labels := S.labels ++ [l] } → H' p = some (.tup xs) → Q (.ref p) H') ∧ (wOk S l ts = false → Bad cB E (A.own r) H ((S.pos : Int) + 1))
section
variable {P : Program} {w : World} {K : PySem.W.Frag} {mg : Str → Option Value} {base : Heap} {C cB fB : Addr} {fdB : FuncData}
theorem sc_write : FnScope ["self", "label", "kind", "tokens", "read", "token"] ["self", "label", "kind", "tokens"] (defScope sWrite) := ⟨rfl, rfl, rfl, by decide +kernel, rfl, by decide +kernel, by decide +kernel⟩
theorem ok_write {f : Addr} {fd : FuncData} (F : Fun K "write_statement" "ProgramReader.write_statement" sWrite f fd) (T : RT K mg C cB fB fdB) (TC : RC mg) (Gn : MOk P w K mg base 3 C "need" (spNeed C cB)) (Gr : MOk P w K mg base 4 C "ref_of" (spRefOf C cB)) (Gw : DOk P w K mg base 1 "is_word" spWord) :
    FnOk P w K mg base (L2.CX P w) 5 f fd ["self", "label", "kind", "tokens"] (spWrite C cB) := by
  obtain ⟨tT, cT⟩ := TC.MOST_TOKENS
  refine F.okX sc_write (fun vs H Q E h => ?_) (fun cdv A outer s H vs Q E hr h => ?_)
  · obtain ⟨r, tk, A, S, l, kd, ts, rfl, _⟩ := h
    rfl
  · obtain ⟨r, tk, A, S, l, kd, ts, rfl, R, S1, htk, hl, hts, hall, k1, k2⟩ := h
    have hr4 : Room 4 _ := hr
    have hr3 : Room 3 _ := hr.mono (by decide)
    have hr1 : Room 1 _ := hr.mono (by decide)
    refine ⟨_, pss_cons (ps_expr (m_meth (pv 0) T.cl Gn hr3 (passes_call (takes_of rfl rfl rfl rfl) (fun _ _ _ _ z => z)) (pa_cons (pe_and (f_call Gw hr1 passL (pa_cons (pv 1) pa_nil)) (pe_and (pe_cmpR op_notIn_seq (pv 1) (pe_fld (pv 0) rfl) (by rfl)) (pe_one (pe_cmpR op_le (pe_callB call_len_seq (by rfl) T.len PySem.boot_len (pa_cons (pv 3) pa_nil)) (pe_glob (v := .int 6) rfl cT ⟨_, rfl⟩) (nomark _))))) pa_nil)))
      (pss_cons (ps_setLcX (i := 4) (own := [("token", 5)]) (g := gName 5) (tt := tYes) (W := fun c d _ H => E c d H) rfl sc_write.nd rfl rfl (takes_of rfl rfl rfl rfl) rfl rfl (sw_true rfl rfl rfl (by decide +kernel)) (pi_list (pv 3)) (blkOk_by (N := ["self", "label", "kind", "tokens", "read", "token"]) (sc := defScope sWrite) (by decide +kernel))
          (fun _ _ _ _ _ => pg_name (i := 5) sc_write.nd rfl (Or.inl rfl)) (fun _ _ _ _ _ => pts_nil)
          (fun _ _ _ _ _ _ hp => pe_ifExp (pt_val (f_call Gw hr1 passL (pa_cons (pv 5) pa_nil))) (pe_tup (pa_cons pe_str (pa_cons (pv 5) pa_nil))) (m_meth (pv 0) T.cl Gr hr4 (hp E fun _ _ _ z => z) (pa_cons (pv 5) pa_nil))))
      (pss_cons (ps_expr (pe_bm PySem.F.plainAttrs_list PySem.F.slot_list_append PySem.F.type_list_append mt_append (pe_fld (pv 0) rfl) (pa_cons (pv 1) pa_nil)))
      (pss_one (ps_ret (pe_tup (pa_cons pe_str (pa_cons (pv 1) (pa_cons (pv 2) (pa_cons (pe_callTy call_tuple_of (by rfl) T.tuple (by decide +kernel) (pa_cons (pv 4) pa_nil)) pa_nil))))))))), ?_⟩
    obtain ⟨dx, ob⟩ := R.ob
    refine ⟨_, rfl, r, dx, _, rfl, ob, noMeth (by decide +kernel), _, rfl, l, rfl, okw_le hl, fun H1 s1 => ⟨_, rfl, ?_⟩⟩
    have R1 := R.same s1
    obtain ⟨dx1, ob1⟩ := R1.ob
    have htk1 := s1 _ _ htk
    refine ite2 (fun h1 => ?_) (fun h1 => ?_)
    · refine ⟨_, rfl, _, rfl, r, C, dx1, _, _, rfl, ob1, T.cl, T.labels, rfl, _, _, rfl, .inl (SqL.of R1.ll), rfl, flat_wlist, _, rfl, ?_⟩
      have e1 : (if true = true then !inV (V.str l) (wlist S.labels) else inV (V.str l) (wlist S.labels)) = !S.labels.contains l := by
        rw [if_pos rfl, in_wlist]
      rw [e1]
      refine ite2 (fun h2 => ?_) (fun h2 => ?_)
      · refine ⟨_, rfl, tk, _, rfl, .inl (SqL.of htk1), _, _, rfl, rfl, r, A, S, _, rfl, R1, fun hb => ?_, fun hb => ?_⟩
        · have hb6 : ts.length ≤ 6 := by
            have := of_decide_eq_true hb
            rw [List.length_map] at this
            omega
          have hw : wOk S l ts = ts.all (tokOk S) := by
            unfold wOk
            rw [h1, h2, decide_eq_true hb6]
            rfl
          refine ⟨_, rfl, tk, rfl, ⟨_, SqL.of htk1⟩, fun D nD => lc_list (K := K) (a := tk) (xs := wlist ts) (fun i H' => Same H1 H' ∧ (∀ x ∈ ts.take i, tokOk S x = true) ∧ ∃ acc, H' D = some (.lst acc) ∧ acc.length = i)
            ⟨Same.new nD, by simp, [], upd_same, rfl⟩ (fun i H' _ ⟨s2, _⟩ => SqL.of (s2 _ _ htk1)) ?_ ?_⟩
          · rintro i y H2 hi ⟨s2, ok, acc, hD, hacc⟩
            obtain ⟨x, hx, rfl⟩ : ∃ x, ts[i]? = some x ∧ y = V.str x := by
              rw [List.getElem?_map] at hi
              cases e : ts[i]? with
              | none => rw [e] at hi; cases hi
              | some x => rw [e] at hi; exact ⟨x, rfl, (Option.some.inj hi).symm⟩
            have okx := hall x (List.mem_of_getElem? hx)
            have hi20 : i < ts.length := (List.getElem?_eq_some_iff.mp hx).1
            have more : tokOk S x = true → ∀ x' ∈ ts.take (i + 1), tokOk S x' = true := fun ht x' hx' => by
              rw [List.take_add_one, hx] at hx'
              rcases List.mem_append.mp hx' with z | z
              · exact ok x' z
              · have : x' = x := by simpa using z
                rw [this]; exact ht
            have fin : ∀ (H4 : Hp) (v : V), Same H2 H4 → tokOk S x = true → ∃ acc, H4 D = some (.lst acc) ∧ acc.length < sizeLine ∧ (Same H1 (upd H4 D (.lst (acc ++ [v]))) ∧ (∀ x ∈ ts.take (i + 1), tokOk S x = true) ∧ ∃ acc', upd H4 D (.lst (acc ++ [v])) D = some (.lst acc') ∧ acc'.length = i + 1) := fun H4 v s4 ht => by
              refine ⟨acc, s4 _ _ hD, ?_, fun b o hb => ?_, more ht, _, upd_same, by simp [hacc]⟩
              · have := le_line (n := 20002) (by omega)
                omega
              · rw [upd_ne (ne_of_none hb nD)]
                exact s4 _ _ (s2 _ _ hb)
            refine ⟨rfl, _, rfl, x, rfl, okw_le okx, fun H3 s3 => ⟨_, rfl, ?_⟩⟩
            refine ite2 (fun h3 => ?_) (fun h3 => ?_)
            · refine ⟨_, rfl, (by show 2 ≤ sizeLine; decide), fun p np => ?_⟩
              exact fin _ _ (s3.trans (Same.new np)) (by unfold tokOk; rw [h3]; rfl)
            · have s13 : Same H H3 := (s1.trans s2).trans s3
              have R3 := R.same s13
              obtain ⟨dx3, ob3⟩ := R3.ob
              have h3 : word x = false := by simpa using h3
              have et : tokOk S x = refOk S x := by unfold tokOk; rw [h3]; rfl
              refine ⟨_, rfl, r, dx3, _, rfl, ob3, noMeth (by decide +kernel), _, rfl, r, A, S, x, rfl, R3, S1, okx, fun hb p H4 a b s4 hp => ?_, fun hb => ?_⟩
              · exact fin _ _ (s3.trans s4) (by rw [et]; exact hb)
              · refine (k2 ?_).before (.of s13)
                rw [hw]
                refine List.all_eq_false.mpr ⟨x, List.mem_of_getElem? hx, ?_⟩
                rw [et, hb]
                simp
          · rintro H2 ⟨s2, ok, acc, hD, hacc⟩
            have s12 : Same H H2 := s1.trans s2
            have R2 := R.same s12
            obtain ⟨dx2, ob2⟩ := R2.ob
            have hlen : (wlist S.labels).length < sizeLine := by
              have := le_line (n := 20002) (by omega)
              have := S1.l
              have := S1.p
              have := S1.n
              rw [List.length_map]
              omega
            refine ⟨_, rfl, r, C, dx2, _, _, rfl, ob2, T.cl, T.labels, rfl, .inl ⟨rfl, _, SqL.of R2.ll⟩, _, rfl, A.ll, _, _, rfl, rfl, R2.ll, hlen, ?_⟩
            have nDl : D ≠ A.ll := fun z => by
              have : H1 A.ll ≠ none := by rw [R1.ll]; simp
              exact this (z ▸ nD)
            have R4 := R2.addLabel l
            have b4 : But (A.own r) H (upd H2 A.ll (.lst (wlist S.labels ++ [.str l]))) := (But.of s12).trans (.upd (by simp [Adr.own]))
            refine ⟨_, rfl, _, rfl, _, rfl, D, acc, rfl, .inl ⟨SqL.of (by rw [upd_ne nDl]; exact hD), fun p np => ?_⟩⟩
            refine ⟨(by show 4 ≤ sizeLine; decide), fun q nq => ?_⟩
            refine k1 ?_ q _ _ (b4.trans (.of ((Same.new np).trans (Same.new nq)))) (R4.same ((Same.new np).trans (Same.new nq))) upd_same
            rw [hw]
            refine List.all_eq_true.mpr fun x hx => ok x ?_
            rw [List.take_of_length_le (by simp)]
            exact hx
        · have hb6 : ¬ ts.length ≤ 6 := fun z => by
            have := of_decide_eq_false hb
            rw [List.length_map] at this
            omega
          have hw : wOk S l ts = false := by
            unfold wOk
            rw [h1, h2, decide_eq_false hb6]
            rfl
          exact (k2 hw).before (.of s1)
      · have hw : wOk S l ts = false := by
          unfold wOk
          rw [h1, show (!S.labels.contains l) = false by simpa using h2]
          rfl
        exact ⟨r, A, S, false, rfl, R1, fun hb => Bool.noConfusion hb, fun _ => (k2 hw).before (.of s1)⟩
    · have hw : wOk S l ts = false := by
        unfold wOk
        rw [show word l = false by simpa using h1]
        rfl
      exact ⟨r, A, S, false, rfl, R1, fun hb => Bool.noConfusion hb, fun _ => (k2 hw).before (.of s1)⟩
end
end K7
/-! part C2 -/
set_option Elab.async false
set_option linter.all false
set_option maxRecDepth 100000
namespace Rdr
open PySem L2
def lineOk (S : Rd) (ws : List Str) : Bool := decide (2 < ws.length) && wOk S (item ws 1) (ws.drop 2)
def headOk (S : Rd) (ws : List Str) : Bool := decide (3 < ws.length) && ((decide (item ws 2 = "-") || S.near.contains (item ws 2)) && wOk S (item ws 1) (ws.drop 3))
theorem at_item {ws : List Str} {i : Nat} (h : i < ws.length) : atI (wlist ws) (i : Int) = some (.str (item ws i)) := by
  refine atI_nat ?_
  rw [List.getElem?_map, List.getElem?_eq_getElem h]
  unfold item
  rw [List.getD_eq_getElem?_getD, List.getElem?_eq_getElem h]
  rfl
theorem item_mem {ws : List Str} {i : Nat} (h : i < ws.length) : item ws i ∈ ws := by
  unfold item
  rw [List.getD_eq_getElem?_getD, List.getElem?_eq_getElem h]
  exact List.getElem_mem h
end Rdr
namespace K7
open PySem L2 Rdr LcX
abbrev sLine : Stmt := inClass (top 21) 10
abbrev sHead : Stmt := inClass (top 21) 11
/-- a tuple and the reader as it is then, or the line is wrong -/
def Done (C cB : Addr) (Q : VK) (E : XK) (r : Addr) (A : Adr) (H : Hp) (ok : Bool) (S S' : Rd) : Prop :=
  (ok = true → ∀ (p : Addr) (xs : List V) (H' : Hp), But (A.own r) H H' → RdAt C H' r A S' → H' p = some (.tup xs) → Q (.ref p) H') ∧ (ok = false → Bad cB E (A.own r) H ((S.pos : Int) + 1))
structure Words (H : Hp) (a : Addr) (ws : List Str) : Prop where
  at_ : H a = some (.lst (wlist ws))
  n : ws.length ≤ 20000
  ok : ∀ x ∈ ws, okw x = true
def spLine (C cB : Addr) (okF : Rd → List Str → Bool) : Sp := fun vs H Q E => ∃ (r wa : Addr) (A : Adr) (S : Rd) (ws : List Str), vs = [.ref r, .ref wa] ∧ RdAt C H r A S ∧ Fine S ∧ Words H wa ws ∧
  Done C cB Q E r A H (okF S ws) S { S with labels := S.labels ++ [item ws 1] }
section
variable {P : Program} {w : World} {K : PySem.W.Frag} {mg : Str → Option Value} {base : Heap} {C cB fB : Addr} {fdB : FuncData}
theorem sc_line : FnScope ["self", "words", "own"] ["self", "words"] (defScope sLine) := ⟨rfl, rfl, rfl, by decide +kernel, rfl, by decide +kernel, by decide +kernel⟩
theorem ok_line {f : Addr} {fd : FuncData} (F : Fun K "line_statement" "ProgramReader.line_statement" sLine f fd) (T : RT K mg C cB fB fdB) (Gn : MOk P w K mg base 3 C "need" (spNeed C cB)) (Gw : MOk P w K mg base 5 C "write_statement" (spWrite C cB)) :
    FnOk P w K mg base (L2.CX P w) 6 f fd ["self", "words"] (spLine C cB lineOk) := by
  refine F.okX sc_line (fun vs H Q E h => ?_) (fun cdv A outer s H vs Q E hr h => ?_)
  · obtain ⟨r, wa, A, S, ws, rfl, _⟩ := h
    rfl
  · obtain ⟨r, wa, A, S, ws, rfl, R, S1, W, k1, k2⟩ := h
    have hr5 : Room 5 _ := hr
    have hr3 : Room 3 _ := hr.mono (by decide)
    obtain ⟨dx, ob⟩ := R.ob
    refine ⟨_, pss_cons (ps_expr (m_meth (pv 0) T.cl Gn hr3 (passes_call (takes_of rfl rfl rfl rfl) (fun _ _ _ _ z => z)) (pa_cons (pe_cmpR op_gt (pe_callB call_len_seq (by rfl) T.len PySem.boot_len (pa_cons (pv 1) pa_nil)) pe_int (nomark _)) pa_nil)))
      (pss_cons (ps_set (i := 2) sc_line.nd rfl (Or.inl rfl) (pe_ifExp (pt_truth (pe_fld (pv 0) rfl) (by intro _; rfl)) (pe_ix ix_tup (pe_fld (pv 0) rfl) (pe_un un_neg pe_int) (fun _ _ => rfl)) pe_str))
      (pss_one (ps_ret (m_meth (pv 0) T.cl Gw hr5 (passes_call (takes_of rfl rfl rfl rfl) (fun _ _ _ _ z => z)) (pa_cons (pe_ix ix_list (pv 1) pe_int (fun _ _ => rfl)) (pa_cons (pv 2) (pa_cons (pe_slice sl_list (pv 1) (po_some pe_int) po_none) pa_nil))))))), ?_⟩
    refine ⟨_, rfl, r, dx, _, rfl, ob, noMeth (by decide +kernel), _, rfl, wa, _, rfl, .inl (SqL.of W.at_), _, _, rfl, rfl, r, A, S, _, rfl, R, fun hb => ?_, fun hb => k2 ?_⟩
    · have h2 : 2 < ws.length := by
        have := of_decide_eq_true hb
        rw [List.length_map] at this
        omega
      have e0 : lineOk S ws = wOk S (item ws 1) (ws.drop 2) := by
        unfold lineOk
        rw [decide_eq_true h2]
        rfl
      have fin : ∀ (kd : Str) (p : Addr), H p = none → spWrite C cB [.ref r, .str (item ws 1), .str kd, .ref p] (upd H p (.lst (wlist (ws.drop 2)))) Q E := fun kd p np => by
        have sp := Same.new (o := .lst (wlist (ws.drop 2))) np
        refine ⟨r, p, A, S, _, kd, ws.drop 2, rfl, R.same sp, S1, upd_same, W.ok _ (item_mem (by omega)), ?_, fun x hx => W.ok x (List.mem_of_mem_drop hx), fun hw q xs H' b' R' hq => ?_, fun hw => (k2 (by rw [e0]; exact hw)).before (.of sp)⟩
        · have := W.n
          rw [List.length_drop]
          omega
        · exact k1 (by rw [e0]; exact hw) q xs H' ((But.of sp).trans b') R' hq
      refine ⟨_, rfl, r, C, dx, _, _, rfl, ob, T.cl, T.near, rfl, _, .inr (.inl ⟨_, SqT.of R.nr.1, rfl⟩), ?_⟩
      refine ite2 (fun h3 => ?_) (fun h3 => ?_)
      · obtain ⟨z, hz⟩ : ∃ z, S.near.getLast? = some z := by
          cases e : S.near.getLast? with
          | some z => exact ⟨z, rfl⟩
          | none =>
            rw [List.getLast?_eq_none_iff.mp e] at h3
            simp at h3
        have hl : atI (wlist S.near) (-1) = some (V.str z) := by
          obtain ⟨ys, hy⟩ := List.getLast?_eq_some_iff.mp hz
          have hw : wlist S.near = wlist ys ++ [V.str z] := by rw [hy]; simp [wlist]
          rw [hw]
          exact atI_last _ _
        refine ⟨_, rfl, r, C, dx, _, _, rfl, ob, T.cl, T.near, rfl, _, rfl, A.nr, _, _, _, rfl, rfl, SqT.of R.nr.1, hl, ?_⟩
        refine ⟨_, rfl, r, dx, _, rfl, ob, noMeth (by decide +kernel), _, rfl, wa, _, _, _, rfl, rfl, SqL.of W.at_, at_item (i := 1) (by omega), _, rfl, _, rfl, 2, rfl, wa, _, rfl, SqL.of W.at_, fun p np => ?_⟩
        have ec : cutV (wlist ws) (some 2) none = wlist (ws.drop 2) := by rw [show ((2 : Int)) = ((2 : Nat) : Int) from rfl, cut_from]; exact (List.map_drop ..).symm
        rw [ec]
        exact fin z p np
      · refine ⟨_, rfl, r, dx, _, rfl, ob, noMeth (by decide +kernel), _, rfl, wa, _, _, _, rfl, rfl, SqL.of W.at_, at_item (i := 1) (by omega), _, rfl, _, rfl, 2, rfl, wa, _, rfl, SqL.of W.at_, fun p np => ?_⟩
        have ec : cutV (wlist ws) (some 2) none = wlist (ws.drop 2) := by rw [show ((2 : Int)) = ((2 : Nat) : Int) from rfl, cut_from]; exact (List.map_drop ..).symm
        rw [ec]
        exact fin _ p np
    · have h2 : ¬ 2 < ws.length := fun z => by
        have := of_decide_eq_false hb
        rw [List.length_map] at this
        omega
      unfold lineOk
      rw [decide_eq_false h2]
      rfl
theorem sc_head : FnScope ["self", "words", "kind"] ["self", "words"] (defScope sHead) := ⟨rfl, rfl, rfl, by decide +kernel, rfl, by decide +kernel, by decide +kernel⟩
theorem ok_head {f : Addr} {fd : FuncData} (F : Fun K "head_statement" "ProgramReader.head_statement" sHead f fd) (T : RT K mg C cB fB fdB) (Gn : MOk P w K mg base 3 C "need" (spNeed C cB)) (Gw : MOk P w K mg base 5 C "write_statement" (spWrite C cB)) :
    FnOk P w K mg base (L2.CX P w) 6 f fd ["self", "words"] (spLine C cB headOk) := by
  refine F.okX sc_head (fun vs H Q E h => ?_) (fun cdv A outer s H vs Q E hr h => ?_)
  · obtain ⟨r, wa, A, S, ws, rfl, _⟩ := h
    rfl
  · obtain ⟨r, wa, A, S, ws, rfl, R, S1, W, k1, k2⟩ := h
    have hr5 : Room 5 _ := hr
    have hr3 : Room 3 _ := hr.mono (by decide)
    obtain ⟨dx, ob⟩ := R.ob
    refine ⟨_, pss_cons (ps_expr (m_meth (pv 0) T.cl Gn hr3 (passes_call (takes_of rfl rfl rfl rfl) (fun _ _ _ _ z => z)) (pa_cons (pe_cmpR op_gt (pe_callB call_len_seq (by rfl) T.len PySem.boot_len (pa_cons (pv 1) pa_nil)) pe_int (nomark _)) pa_nil)))
      (pss_cons (ps_expr (m_meth (pv 0) T.cl Gn hr3 (passes_call (takes_of rfl rfl rfl rfl) (fun _ _ _ _ z => z)) (pa_cons (pe_or (pe_cmpR op_eq (pe_ix ix_list (pv 1) pe_int (fun _ _ => rfl)) pe_str (nomark _)) (pe_one (pe_cmpR op_in_seq (pe_ix ix_list (pv 1) pe_int (fun _ _ => rfl)) (pe_fld (pv 0) rfl) (by rfl)))) pa_nil)))
      (pss_cons (ps_set (i := 2) sc_head.nd rfl (Or.inl rfl) (pe_ifExp (pt_cmpR op_eq (pe_ix ix_list (pv 1) pe_int (fun _ _ => rfl)) pe_str (nomark _)) pe_str (pe_ix ix_list (pv 1) pe_int (fun _ _ => rfl))))
      (pss_one (ps_ret (m_meth (pv 0) T.cl Gw hr5 (passes_call (takes_of rfl rfl rfl rfl) (fun _ _ _ _ z => z)) (pa_cons (pe_ix ix_list (pv 1) pe_int (fun _ _ => rfl)) (pa_cons (pv 2) (pa_cons (pe_slice sl_list (pv 1) (po_some pe_int) po_none) pa_nil)))))))), ?_⟩
    refine ⟨_, rfl, r, dx, _, rfl, ob, noMeth (by decide +kernel), _, rfl, wa, _, rfl, .inl (SqL.of W.at_), _, _, rfl, rfl, r, A, S, _, rfl, R, fun hb => ?_, fun hb => k2 ?_⟩
    · have h2 : 3 < ws.length := by
        have := of_decide_eq_true hb
        rw [List.length_map] at this
        omega
      have at2 : atI (wlist ws) 2 = some (.str (item ws 2)) := at_item (i := 2) (by omega)
      have fin : wOk S (item ws 1) (ws.drop 3) = headOk S ws → ∀ (kd : Str) (p : Addr), H p = none → spWrite C cB [.ref r, .str (item ws 1), .str kd, .ref p] (upd H p (.lst (wlist (ws.drop 3)))) Q E := fun e0 kd p np => by
        have sp := Same.new (o := .lst (wlist (ws.drop 3))) np
        refine ⟨r, p, A, S, _, kd, ws.drop 3, rfl, R.same sp, S1, upd_same, W.ok _ (item_mem (by omega)), ?_, fun x hx => W.ok x (List.mem_of_mem_drop hx), fun hw q xs H' b' R' hq => ?_, fun hw => (k2 (by rw [← e0]; exact hw)).before (.of sp)⟩
        · have := W.n
          rw [List.length_drop]
          omega
        · exact k1 (by rw [← e0]; exact hw) q xs H' ((But.of sp).trans b') R' hq
      have ec : cutV (wlist ws) (some 3) none = wlist (ws.drop 3) := by rw [show ((3 : Int)) = ((3 : Nat) : Int) from rfl, cut_from]; exact (List.map_drop ..).symm
      have en : (if false = true then !inV (V.str (item ws 2)) (wlist S.near) else inV (V.str (item ws 2)) (wlist S.near)) = S.near.contains (item ws 2) := in_wlist
      refine ⟨_, rfl, r, dx, _, rfl, ob, noMeth (by decide +kernel), _, rfl, wa, _, _, _, rfl, rfl, SqL.of W.at_, at2, rfl, _, rfl, ?_⟩
      by_cases h4 : item ws 2 = "-"
      · rw [decide_eq_true (congrArg V.str h4)]
        refine iteT ?_
        have e0 : wOk S (item ws 1) (ws.drop 3) = headOk S ws := by
          unfold headOk
          rw [decide_eq_true h2, decide_eq_true h4]
          simp
        refine ⟨r, A, S, true, rfl, R, fun _ => ?_, fun hb => Bool.noConfusion hb⟩
        refine ⟨_, rfl, wa, _, _, _, rfl, rfl, SqL.of W.at_, at2, rfl, _, rfl, ?_⟩
        rw [decide_eq_true (congrArg V.str h4)]
        refine iteT ?_
        refine ⟨_, rfl, r, dx, _, rfl, ob, noMeth (by decide +kernel), _, rfl, wa, _, _, _, rfl, rfl, SqL.of W.at_, at_item (i := 1) (by omega), _, rfl, _, rfl, 3, rfl, wa, _, rfl, SqL.of W.at_, fun p np => ?_⟩
        rw [ec]
        exact fin e0 _ p np
      · have h4' : ¬ (V.str (item ws 2) = V.str "-") := fun z => h4 (V.str.inj z)
        rw [decide_eq_false h4']
        refine iteF ?_
        refine ⟨_, rfl, wa, _, _, _, rfl, rfl, SqL.of W.at_, at2, _, rfl, r, C, dx, _, _, rfl, ob, T.cl, T.near, rfl, _, _, rfl, .inr (SqT.of R.nr.1), rfl, flat_wlist, ?_⟩
        rw [en]
        refine ⟨r, A, S, _, rfl, R, fun hb3 => ?_, fun hb3 => k2 ?_⟩
        · have e0 : wOk S (item ws 1) (ws.drop 3) = headOk S ws := by
            unfold headOk
            rw [decide_eq_true h2, hb3]
            simp
          refine ⟨_, rfl, wa, _, _, _, rfl, rfl, SqL.of W.at_, at2, rfl, _, rfl, ?_⟩
          rw [decide_eq_false h4']
          refine iteF ?_
          refine ⟨_, rfl, wa, _, _, _, rfl, rfl, SqL.of W.at_, at2, ?_⟩
          refine ⟨_, rfl, r, dx, _, rfl, ob, noMeth (by decide +kernel), _, rfl, wa, _, _, _, rfl, rfl, SqL.of W.at_, at_item (i := 1) (by omega), _, rfl, _, rfl, 3, rfl, wa, _, rfl, SqL.of W.at_, fun p np => ?_⟩
          rw [ec]
          exact fin e0 _ p np
        · unfold headOk
          rw [hb3, decide_eq_false h4]
          simp
    · have h2 : ¬ 3 < ws.length := fun z => by
        have := of_decide_eq_false hb
        rw [List.length_map] at this
        omega
      unfold headOk
      rw [decide_eq_false h2]
      rfl
end
end K7
/-! part C3 -/
set_option Elab.async false
set_option linter.all false
set_option maxRecDepth 100000
namespace Rdr
open PySem L2
/-- further on in the lines, perhaps with more labels, all else as it was -/
structure Adv (S S' : Rd) : Prop where
  eq : S' = { S with pos := S'.pos, labels := S'.labels }
  le : S.pos ≤ S'.pos
  in_ : S'.pos ≤ S.ls.length
  lb : S'.labels.length ≤ S'.pos
theorem Adv.refl {S : Rd} (h : Fine S) : Adv S S := ⟨rfl, Nat.le_refl _, h.p, h.l⟩
theorem Adv.trans {S S1 S2 : Rd} (a : Adv S S1) (b : Adv S1 S2) : Adv S S2 := by
  have e : S2 = { S with pos := S2.pos, labels := S2.labels } := by
    have h1 := b.eq
    rw [a.eq] at h1
    exact h1
  have l : S1.ls.length = S.ls.length := by rw [a.eq]
  exact ⟨e, Nat.le_trans a.le b.le, by have := b.in_; omega, b.lb⟩
theorem Adv.fine {S S' : Rd} (a : Adv S S') (h : Fine S) : Fine S' := by
  rw [a.eq]
  exact ⟨a.in_, h.n, h.ws, h.k, h.c, h.f, h.cf, h.ff, h.nf, a.lb, h.w, h.q, h.ck, h.kw, h.kn⟩
theorem Adv.step {S : Rd} (h : Fine S) (hp : S.pos < S.ls.length) : Adv S S.on := ⟨rfl, Nat.le_succ _, hp, Nat.le_succ_of_le h.l⟩
def ifR : Nat → Int → Rd → List Str → Res Rd
  | 0, _, S, _ => .bad ((S.pos : Int) + 1)
  | j + 1, depth, S, ws => ifM (fun S => blockM (stmM j (depth + 1)) (depth + 1) (S.ls.length - S.pos + 1) 0 S) S ws depth
theorem stmM_eq {j : Nat} {d : Int} {S : Rd} {ws : List Str} : stmM j d S ws = if item ws 0 = "if" then ifR j d S ws else simpleM S ws := by
  cases j <;> rfl
def simpleOk (S : Rd) (ws : List Str) : Bool := if item ws 0 = "line" then lineOk S ws else if item ws 0 = "head" then headOk S ws else decide (item ws 0 = "set") && (decide (ws.length = 3) && cellOk S (item ws 1) (item ws 2))
def simpleTo (S : Rd) (ws : List Str) : Rd := if item ws 0 = "line" ∨ item ws 0 = "head" then { S with labels := S.labels ++ [item ws 1], pos := S.pos + 1 } else S.on
theorem simpleM_eq {S : Rd} {ws : List Str} : simpleM S ws = if simpleOk S ws = true then .ok (simpleTo S ws) else .bad ((S.pos : Int) + 1) := by
  unfold simpleM simpleOk simpleTo
  by_cases h1 : item ws 0 = "line"
  · simp only [if_pos h1, if_pos (Or.inl h1 : item ws 0 = "line" ∨ item ws 0 = "head")]
    rw [writeM_eq, need_need]
    show (S.need (lineOk S ws) _).bind _ = _
    rw [need_eq]
    cases lineOk S ws <;> rfl
  · by_cases h2 : item ws 0 = "head"
    · simp only [if_neg h1, if_pos h2, if_pos (Or.inr h2 : item ws 0 = "line" ∨ item ws 0 = "head")]
      rw [writeM_eq, need_need, need_need, Bool.and_assoc]
      show (S.need (headOk S ws) _).bind _ = _
      rw [need_eq]
      cases headOk S ws <;> rfl
    · have h3 : ¬ (item ws 0 = "line" ∨ item ws 0 = "head") := fun z => z.elim h1 h2
      simp only [if_neg h1, if_neg h2, if_neg h3]
      unfold worthM
      rw [need_need, need_need, need_eq]
      unfold cellOk
      simp only [Bool.and_assoc]
      generalize (decide (item ws 0 = "set") && (decide (ws.length = 3) && (S.cells.contains (item ws 1) && (digits (S.worths.getD (S.cells.findIdx (· = item ws 1)) 0)).contains (item ws 2)))) = b
      cases b <;> rfl
end Rdr
namespace K7
open PySem L2 Rdr LcX
abbrev sStm : Stmt := inClass (top 21) 8
/-- a tuple and the reader further on, or an error -/
def Comes (C cB : Addr) (Q : VK) (E : XK) (r : Addr) (A : Adr) (H : Hp) (S : Rd) (more : Nat) (m : Res Rd) : Prop := match m with
  | .ok S' => ∀ (p : Addr) (xs : List V) (H' : Hp), But (A.own r) H H' → RdAt C H' r A S' → Adv S S' → S.pos + more ≤ S'.pos → H' p = some (.tup xs) → Q (.ref p) H'
  | .bad n => Bad cB E (A.own r) H n
def spStm (C cB : Addr) (more : Nat) (j : Nat) (m : Nat → Int → Rd → List Str → Res Rd) : Sp := fun vs H Q E => ∃ (r wa : Addr) (A : Adr) (S : Rd) (ws : List Str) (d ifs : Int), vs = [.ref r, .ref wa, .int d, .int ifs] ∧ ifs = 2 - (j : Int) ∧ 0 ≤ d ∧ d + (j : Int) ≤ 50 ∧ j ≤ 2 ∧
  RdAt C H r A S ∧ Fine S ∧ Words H wa ws ∧ wa ∉ A.own r ∧ S.pos < S.ls.length ∧ ws ≠ [] ∧ Comes C cB Q E r A H S more (m j d S ws)
section
variable {P : Program} {w : World} {K : PySem.W.Frag} {mg : Str → Option Value} {base : Heap} {C cB fB : Addr} {fdB : FuncData}
theorem sc_stm : FnScope ["self", "words", "depth", "ifs", "statement"] ["self", "words", "depth", "ifs"] (defScope sStm) := ⟨rfl, rfl, rfl, by decide +kernel, rfl, by decide +kernel, by decide +kernel⟩
theorem ok_stm {f : Addr} {fd : FuncData} {k j : Nat} (hk : 6 ≤ k) (F : Fun K "read_statement" "ProgramReader.read_statement" sStm f fd) (T : RT K mg C cB fB fdB) (Gn : MOk P w K mg base 3 C "need" (spNeed C cB)) (Gl : MOk P w K mg base 6 C "line_statement" (spLine C cB lineOk)) (Gh : MOk P w K mg base 6 C "head_statement" (spLine C cB headOk))
    (Gc : MOk P w K mg base 4 C "cell_worth" (spCellWorth C cB)) (Gi : MOk P w K mg base k C "read_if" (spStm C cB 1 j ifR)) : FnOk P w K mg base (L2.CX P w) (k + 1) f fd ["self", "words", "depth", "ifs"] (spStm C cB 1 j stmM) := by
  refine F.okX sc_stm (fun vs H Q E h => ?_) (fun cdv A outer s H vs Q E hr h => ?_)
  · obtain ⟨r, wa, A, S, ws, d, ifs, rfl, _⟩ := h
    rfl
  · obtain ⟨r, wa, A, S, ws, d, ifs, rfl, hifs, d0, d1, hj, R, S1, W, hwa, hpos, hne, kk⟩ := h
    have hr3 : Room 3 _ := hr.mono (by omega)
    have hr4 : Room 4 _ := hr.mono (by omega)
    have hr6 : Room 6 _ := hr.mono (by omega)
    obtain ⟨dx, ob⟩ := R.ob
    refine ⟨_, pss_cons (ps_if (pt_cmpR op_eq (pe_ix ix_list (pv 1) pe_int (fun _ _ => rfl)) pe_str (nomark _)) (pss_one (ps_ret (m_meth (pv 0) T.cl Gi hr (passes_call (takes_of rfl rfl rfl rfl) (fun _ _ _ _ z => z)) (pa_cons (pv 1) (pa_cons (pv 2) (pa_cons (pv 3) pa_nil)))))) pss_nil)
      (pss_cons (ps_if (pt_cmpR op_eq (pe_ix ix_list (pv 1) pe_int (fun _ _ => rfl)) pe_str (nomark _))
          (pss_one (ps_set (i := 4) sc_stm.nd rfl (Or.inl rfl) (m_meth (pv 0) T.cl Gl hr6 (passes_call (takes_of rfl rfl rfl rfl) (fun _ _ _ _ z => z)) (pa_cons (pv 1) pa_nil))))
          (pss_one (ps_if (pt_cmpR op_eq (pe_ix ix_list (pv 1) pe_int (fun _ _ => rfl)) pe_str (nomark _))
            (pss_one (ps_set (i := 4) sc_stm.nd rfl (Or.inl rfl) (m_meth (pv 0) T.cl Gh hr6 (passes_call (takes_of rfl rfl rfl rfl) (fun _ _ _ _ z => z)) (pa_cons (pv 1) pa_nil))))
            (pss_cons (ps_expr (m_meth (pv 0) T.cl Gn hr3 (passes_call (takes_of rfl rfl rfl rfl) (fun _ _ _ _ z => z)) (pa_cons (pe_and (pe_cmpR op_eq (pe_ix ix_list (pv 1) pe_int (fun _ _ => rfl)) pe_str (nomark _)) (pe_one (pe_cmpR op_eq (pe_callB call_len_seq (by rfl) T.len PySem.boot_len (pa_cons (pv 1) pa_nil)) pe_int (nomark _)))) pa_nil)))
            (pss_one (ps_set (i := 4) sc_stm.nd rfl (Or.inl rfl) (pe_tup (pa_cons pe_str (StX.pa_star (m_meth (pv 0) T.cl Gc hr4 (passes_call (takes_of rfl rfl rfl rfl) (fun _ _ _ _ z => z)) (pa_cons (pe_ix ix_list (pv 1) pe_int (fun _ _ => rfl)) (pa_cons (pe_ix ix_list (pv 1) pe_int (fun _ _ => rfl)) pa_nil))) pa_nil)))))))))
      (pss_cons (ps_fldaug (pv 0) pe_int in_add)
      (pss_one (ps_ret (pv 4))))), ?_⟩
    have h0 : 0 < ws.length := List.length_pos_iff.mpr hne
    have at0 : atI (wlist ws) 0 = some (.str (item ws 0)) := at_item (i := 0) h0
    have deq : ∀ x : Str, decide (V.str (item ws 0) = V.str x) = decide (item ws 0 = x) := fun x => by
      by_cases h : item ws 0 = x
      · rw [decide_eq_true h, decide_eq_true (congrArg V.str h)]
      · rw [decide_eq_false h, decide_eq_false (fun z => h (V.str.inj z))]
    refine ⟨_, rfl, wa, _, _, _, rfl, rfl, SqL.of W.at_, at0, rfl, _, rfl, ?_⟩
    rw [stmM_eq] at kk
    rw [deq]
    by_cases hif : item ws 0 = "if"
    · rw [decide_eq_true hif]
      rw [if_pos hif] at kk
      refine iteT ?_
      exact ⟨_, rfl, r, dx, _, rfl, ob, noMeth (by decide +kernel), _, rfl, _, rfl, _, rfl, r, wa, A, S, ws, d, ifs, rfl, hifs, d0, d1, hj, R, S1, W, hwa, hpos, hne, kk⟩
    · rw [decide_eq_false hif]
      rw [if_neg hif, simpleM_eq] at kk
      have kok : simpleOk S ws = true → ∀ (p : Addr) (xs : List V) (H' : Hp), But (A.own r) H H' → RdAt C H' r A (simpleTo S ws) → H' p = some (.tup xs) → Q (.ref p) H' := fun hb p xs H' b' R' hp' => by
        rw [if_pos hb] at kk
        refine kk p xs H' b' R' ?_ ?_ hp'
        · unfold simpleTo
          split
          · exact ⟨rfl, Nat.le_succ _, hpos, by have := S1.l; show (S.labels ++ [item ws 1]).length ≤ S.pos + 1; rw [List.length_append]; show S.labels.length + 1 ≤ S.pos + 1; omega⟩
          · exact Adv.step S1 hpos
        · unfold simpleTo
          split
          · exact Nat.le_refl _
          · exact Nat.le_refl _
      have kbad : simpleOk S ws = false → Bad cB E (A.own r) H ((S.pos : Int) + 1) := fun hb => by
        rw [if_neg (by rw [hb]; simp)] at kk
        exact kk
      refine iteF ?_
      refine ⟨_, rfl, wa, _, _, _, rfl, rfl, SqL.of W.at_, at0, rfl, _, rfl, ?_⟩
      rw [deq]
      by_cases hl : item ws 0 = "line"
      · rw [decide_eq_true hl]
        refine iteT ?_
        have eo : simpleOk S ws = lineOk S ws := by unfold simpleOk; rw [if_pos hl]
        refine ⟨_, rfl, r, dx, _, rfl, ob, noMeth (by decide +kernel), _, rfl, r, wa, A, S, ws, rfl, R, S1, W, fun hb p xs H1 b1 R1 hp1 => ?_, fun hb => kbad (by rw [eo]; exact hb)⟩
        obtain ⟨dx1, ob1⟩ := R1.ob
        refine ⟨_, rfl, r, C, dx1, _, _, rfl, ob1, T.cl, T.at_, rfl, _, _, rfl, rfl, dx1, _, ob1, (by show 10 < 1000; decide), _, rfl, ?_⟩
        refine kok (by rw [eo]; exact hb) p xs _ (b1.trans (.upd (by simp [Adr.own]))) ?_ (by rw [upd_ne (ne_of hp1 ob1 (by intro z; cases z))]; exact hp1)
        have g := R1.goTo (dx := dx1) (S.pos + 1)
        have es : simpleTo S ws = { S with labels := S.labels ++ [item ws 1], pos := S.pos + 1 } := by unfold simpleTo; rw [if_pos (Or.inl hl)]
        rw [es]
        exact g
      · rw [decide_eq_false hl]
        refine iteF ?_
        refine ⟨_, rfl, wa, _, _, _, rfl, rfl, SqL.of W.at_, at0, rfl, _, rfl, ?_⟩
        rw [deq]
        by_cases hh : item ws 0 = "head"
        · rw [decide_eq_true hh]
          refine iteT ?_
          have eo : simpleOk S ws = headOk S ws := by unfold simpleOk; rw [if_neg hl, if_pos hh]
          refine ⟨_, rfl, r, dx, _, rfl, ob, noMeth (by decide +kernel), _, rfl, r, wa, A, S, ws, rfl, R, S1, W, fun hb p xs H1 b1 R1 hp1 => ?_, fun hb => kbad (by rw [eo]; exact hb)⟩
          obtain ⟨dx1, ob1⟩ := R1.ob
          refine ⟨_, rfl, r, C, dx1, _, _, rfl, ob1, T.cl, T.at_, rfl, _, _, rfl, rfl, dx1, _, ob1, (by show 10 < 1000; decide), _, rfl, ?_⟩
          refine kok (by rw [eo]; exact hb) p xs _ (b1.trans (.upd (by simp [Adr.own]))) ?_ (by rw [upd_ne (ne_of hp1 ob1 (by intro z; cases z))]; exact hp1)
          have g := R1.goTo (dx := dx1) (S.pos + 1)
          have es : simpleTo S ws = { S with labels := S.labels ++ [item ws 1], pos := S.pos + 1 } := by unfold simpleTo; rw [if_pos (Or.inr hh)]
          rw [es]
          exact g
        · rw [decide_eq_false hh]
          refine iteF ?_
          have eo : simpleOk S ws = (decide (item ws 0 = "set") && (decide (ws.length = 3) && cellOk S (item ws 1) (item ws 2))) := by unfold simpleOk; rw [if_neg hl, if_neg hh]
          have es : simpleTo S ws = S.on := by unfold simpleTo; rw [if_neg (fun z => z.elim hl hh)]
          refine ⟨_, rfl, r, dx, _, rfl, ob, noMeth (by decide +kernel), _, rfl, wa, _, _, _, rfl, rfl, SqL.of W.at_, at0, rfl, _, rfl, ?_⟩
          rw [deq]
          by_cases hs : item ws 0 = "set"
          · rw [decide_eq_true hs]
            refine iteT ?_
            refine ⟨_, rfl, wa, _, rfl, .inl (SqL.of W.at_), rfl, r, A, S, _, rfl, R, fun hb => ?_, fun hb => kbad ?_⟩
            · have h3 : ws.length = 3 := by
                have := V.int.inj (of_decide_eq_true hb)
                rw [List.length_map] at this
                omega
              have eo2 : simpleOk S ws = cellOk S (item ws 1) (item ws 2) := by
                rw [eo, decide_eq_true hs, decide_eq_true h3]
                rfl
              refine ⟨_, rfl, r, dx, _, rfl, ob, noMeth (by decide +kernel), _, rfl, wa, _, _, _, rfl, rfl, SqL.of W.at_, at_item (i := 1) (by omega), _, rfl, wa, _, _, _, rfl, rfl, SqL.of W.at_, at_item (i := 2) (by omega), r, A, S, _, _, rfl, R, S1, fun hb2 p H1 a b s1 hp => ?_, fun hb2 => kbad (by rw [eo2]; exact hb2)⟩
              refine ⟨p, _, rfl, .inl (SqT.of hp), (by show 3 ≤ sizeLine; decide), fun q nq => ?_⟩
              have R1 := R.same (s1.trans (Same.new (o := .tup ([V.str "set"] ++ ([a, b] ++ []))) nq))
              obtain ⟨dx1, ob1⟩ := R1.ob
              refine ⟨_, rfl, r, C, dx1, _, _, rfl, ob1, T.cl, T.at_, rfl, _, _, rfl, rfl, dx1, _, ob1, (by show 10 < 1000; decide), _, rfl, ?_⟩
              have hq1 : (upd H1 q (.tup ([V.str "set"] ++ ([a, b] ++ [])))) q = some (.tup ([V.str "set"] ++ ([a, b] ++ []))) := upd_same
              refine kok (by rw [eo2]; exact hb2) q _ _ ((But.of (s1.trans (Same.new nq))).trans (.upd (by simp [Adr.own]))) ?_ (by rw [upd_ne (ne_of hq1 ob1 (by intro z; cases z))]; exact hq1)
              rw [es]
              exact R1.goTo (dx := dx1) (S.pos + 1)
            · have h3 : ¬ ws.length = 3 := fun z => by
                have := of_decide_eq_false hb
                exact this (by rw [List.length_map, z]; rfl)
              rw [eo, decide_eq_false h3]
              simp
          · rw [decide_eq_false hs]
            refine iteF ?_
            exact ⟨r, A, S, false, rfl, R, fun hb => Bool.noConfusion hb, fun _ => kbad (by rw [eo, decide_eq_false hs]; rfl)⟩
end
end K7
/-! part C4 -/
set_option Elab.async false
set_option linter.all false
set_option maxRecDepth 100000
namespace Rdr
open PySem L2
def testOk (S : Rd) (ws : List Str) : Bool := decide (ws.length = 4) && (if item ws 2 = "=" then cellOk S (item ws 1) (item ws 3) else (decide (item ws 2 = "is") && word (item ws 3)) && refOk S (item ws 1))
def ifRest (block : Rd → Res Rd) (S : Rd) (d : Int) : Res Rd := (block S.on).bind fun S1 => if S1.wordsAt d = [("else" : Str)] then block S1.on else .ok S1
theorem ifM_eq {block : Rd → Res Rd} {S : Rd} {ws : List Str} {d : Int} : ifM block S ws d = if testOk S ws = true then ifRest block S d else .bad ((S.pos : Int) + 1) := by
  unfold ifM testOk
  by_cases h4 : ws.length = 4
  · rw [decide_eq_true h4, need_eq, if_pos rfl, Bool.true_and]
    by_cases he : item ws 2 = "="
    · rw [if_pos he, if_pos he]
      unfold worthM
      rw [need_need, need_eq]
      show (if cellOk S (item ws 1) (item ws 3) = true then Res.ok () else Res.bad ((S.pos : Int) + 1)).bind _ = _
      cases cellOk S (item ws 1) (item ws 3) <;> rfl
    · rw [if_neg he, if_neg he]
      show (S.need _ (S.need (refOk S (item ws 1)) (Res.ok ()))).bind _ = _
      rw [need_need, need_eq]
      cases (decide (item ws 2 = "is") && word (item ws 3)) && refOk S (item ws 1) <;> rfl
  · rw [decide_eq_false h4]
    rfl
end Rdr
namespace K7
open PySem L2 Rdr LcX
abbrev sIf : Stmt := inClass (top 21) 9
def spBlock (C cB : Addr) (j : Nat) : Sp := fun vs H Q E => ∃ (r : Addr) (A : Adr) (S : Rd) (d ifs : Int), vs = [.ref r, .int d, .int ifs] ∧ ifs = 2 - (j : Int) ∧ 0 ≤ d ∧ d + (j : Int) ≤ 50 ∧ j ≤ 2 ∧ RdAt C H r A S ∧ Fine S ∧ Comes C cB Q E r A H S 0 (blockOf j d S)
def spBelow (C cB : Addr) : Nat → Sp
  | 0 => fun _ _ _ _ => False
  | j + 1 => spBlock C cB j
theorem Comes.before {C cB : Addr} {Q : VK} {E : XK} {r : Addr} {A : Adr} {H H1 : Hp} {S S1 : Rd} {a b : Nat} {m : Res Rd} (c : Comes C cB Q E r A H S a m) (k : But (A.own r) H H1) (v : Adv S S1) (hb : S.pos + a ≤ S1.pos + b) : Comes C cB Q E r A H1 S1 b m := by
  cases m with
  | bad n => exact Bad.before c k
  | ok S' => exact fun p xs H' b' R' v' h' hp => c p xs H' (k.trans b') R' (v.trans v') (by omega) hp
section
variable {P : Program} {w : World} {K : PySem.W.Frag} {mg : Str → Option Value} {base : Heap} {C cB fB : Addr} {fdB : FuncData}
theorem sc_if : FnScope ["self", "words", "depth", "ifs", "test", "then", "other"] ["self", "words", "depth", "ifs"] (defScope sIf) := ⟨rfl, rfl, rfl, by decide +kernel, rfl, by decide +kernel, by decide +kernel⟩
theorem ok_if {f : Addr} {fd : FuncData} {k j : Nat} (hk : 4 ≤ k) (F : Fun K "read_if" "ProgramReader.read_if" sIf f fd) (T : RT K mg C cB fB fdB) (TC : RC mg) (Gn : MOk P w K mg base 3 C "need" (spNeed C cB)) (Ga : MOk P w K mg base 1 C "words_at" (spWordsAt C)) (Gw : DOk P w K mg base 1 "is_word" spWord)
    (Gc : MOk P w K mg base 4 C "cell_worth" (spCellWorth C cB)) (Gr : MOk P w K mg base 4 C "ref_of" (spRefOf C cB)) (Gb : MOk P w K mg base k C "read_block" (spBelow C cB j)) : FnOk P w K mg base (L2.CX P w) (k + 1) f fd ["self", "words", "depth", "ifs"] (spStm C cB 1 j ifR) := by
  obtain ⟨tI, cI⟩ := TC.MOST_IFS_IN_ONE_ANOTHER
  refine F.okX sc_if (fun vs H Q E h => ?_) (fun cdv A outer s H vs Q E hr h => ?_)
  · obtain ⟨r, wa, A, S, ws, d, ifs, rfl, _⟩ := h
    rfl
  · obtain ⟨r, wa, A, S, ws, d, ifs, rfl, hifs, d0, d1, hj, R, S1, W, hwa, hpos, hne, kk⟩ := h
    have hr1 : Room 1 _ := hr.mono (by omega)
    have hr3 : Room 3 _ := hr.mono (by omega)
    have hr4 : Room 4 _ := hr.mono (by omega)
    obtain ⟨dx, ob⟩ := R.ob
    refine ⟨_, pss_cons (ps_expr (m_meth (pv 0) T.cl Gn hr3 (passes_call (takes_of rfl rfl rfl rfl) (fun _ _ _ _ z => z)) (pa_cons (pe_and (pe_cmpR op_lt (pv 3) (pe_glob (v := .int 2) rfl cI ⟨_, rfl⟩) (nomark _)) (pe_one (pe_cmpR op_eq (pe_callB call_len_seq (by rfl) T.len PySem.boot_len (pa_cons (pv 1) pa_nil)) pe_int (nomark _)))) pa_nil)))
      (pss_cons (ps_if (pt_cmpR op_eq (pe_ix ix_list (pv 1) pe_int (fun _ _ => rfl)) pe_str (nomark _))
          (pss_one (ps_set (i := 4) sc_if.nd rfl (Or.inl rfl) (pe_tup (pa_cons pe_str (StX.pa_star (m_meth (pv 0) T.cl Gc hr4 (passes_call (takes_of rfl rfl rfl rfl) (fun _ _ _ _ z => z)) (pa_cons (pe_ix ix_list (pv 1) pe_int (fun _ _ => rfl)) (pa_cons (pe_ix ix_list (pv 1) pe_int (fun _ _ => rfl)) pa_nil))) pa_nil)))))
          (pss_cons (ps_expr (m_meth (pv 0) T.cl Gn hr3 (passes_call (takes_of rfl rfl rfl rfl) (fun _ _ _ _ z => z)) (pa_cons (pe_and (pe_cmpR op_eq (pe_ix ix_list (pv 1) pe_int (fun _ _ => rfl)) pe_str (nomark _)) (pe_one (f_call Gw hr1 passL (pa_cons (pe_ix ix_list (pv 1) pe_int (fun _ _ => rfl)) pa_nil)))) pa_nil)))
          (pss_one (ps_set (i := 4) sc_if.nd rfl (Or.inl rfl) (pe_tup (pa_cons pe_str (pa_cons (m_meth (pv 0) T.cl Gr hr4 (passes_call (takes_of rfl rfl rfl rfl) (fun _ _ _ _ z => z)) (pa_cons (pe_ix ix_list (pv 1) pe_int (fun _ _ => rfl)) pa_nil)) (pa_cons (pe_ix ix_list (pv 1) pe_int (fun _ _ => rfl)) pa_nil))))))))
      (pss_cons (ps_fldaug (pv 0) pe_int in_add)
      (pss_cons (ps_set (i := 5) sc_if.nd rfl (Or.inl rfl) (m_meth (pv 0) T.cl Gb hr (passes_call (takes_of rfl rfl rfl rfl) (fun _ _ _ _ z => z)) (pa_cons (pe_op op_add (pv 2) pe_int) (pa_cons (pe_op op_add (pv 3) pe_int) pa_nil))))
      (pss_cons (ps_set (i := 6) sc_if.nd rfl (Or.inl rfl) (pe_tup pa_nil))
      (pss_cons (ps_if (pt_cmpR (op_eqD hr.units) (m_meth (pv 0) T.cl Ga hr1 passL (pa_cons (pv 2) pa_nil)) (pe_lst (pa_cons pe_str pa_nil)) (nomark _))
          (pss_cons (ps_fldaug (pv 0) pe_int in_add)
          (pss_one (ps_set (i := 6) sc_if.nd rfl (Or.inl rfl) (m_meth (pv 0) T.cl Gb hr (passes_call (takes_of rfl rfl rfl rfl) (fun _ _ _ _ z => z)) (pa_cons (pe_op op_add (pv 2) pe_int) (pa_cons (pe_op op_add (pv 3) pe_int) pa_nil)))))) pss_nil)
      (pss_one (ps_ret (pe_tup (StX.pa_star (pv 4) (pa_cons (pv 5) (pa_cons (pv 6) pa_nil))))))))))), ?_⟩
    refine ⟨_, rfl, r, dx, _, rfl, ob, noMeth (by decide +kernel), _, rfl, _, _, rfl, rfl, _, rfl, ?_⟩
    cases j with
    | zero =>
      have e : decide (ifs < 2) = false := decide_eq_false (by omega)
      rw [e]
      refine iteF ?_
      exact ⟨r, A, S, false, rfl, R, fun hb => Bool.noConfusion hb, fun _ => kk⟩
    | succ j =>
      have e : decide (ifs < 2) = true := decide_eq_true (by omega)
      rw [e]
      refine iteT ?_
      have kk : Comes C cB Q E r A H S 1 (ifM (blockOf j (d + 1)) S ws d) := kk
      rw [ifM_eq] at kk
      have kbad : testOk S ws = false → Bad cB E (A.own r) H ((S.pos : Int) + 1) := fun hb => by
        rw [if_neg (by rw [hb]; simp)] at kk
        exact kk
      have deq : ∀ x y : Str, decide (V.str x = V.str y) = decide (x = y) := fun x y => by
        by_cases h : x = y
        · rw [decide_eq_true h, decide_eq_true (congrArg V.str h)]
        · rw [decide_eq_false h, decide_eq_false (fun z => h (V.str.inj z))]
      refine ⟨_, rfl, wa, _, rfl, .inl (SqL.of W.at_), rfl, r, A, S, _, rfl, R, fun hb => ?_, fun hb => kbad ?_⟩
      · have h4 : ws.length = 4 := by
          have := V.int.inj (of_decide_eq_true hb)
          rw [List.length_map] at this
          omega
        have at2 : atI (wlist ws) 2 = some (.str (item ws 2)) := at_item (i := 2) (by omega)
        refine ⟨_, rfl, wa, _, _, _, rfl, rfl, SqL.of W.at_, at2, rfl, _, rfl, ?_⟩
        rw [deq]
        rcases Classical.em (item ws 2 = "=") with he | he
        all_goals first
          | (have hT : testOk S ws = cellOk S (item ws 1) (item ws 3) := by
               unfold testOk
               rw [decide_eq_true h4, if_pos he]
               rfl
             rw [decide_eq_true he]
             refine iteT ?_
             refine ⟨_, rfl, r, dx, _, rfl, ob, noMeth (by decide +kernel), _, rfl, wa, _, _, _, rfl, rfl, SqL.of W.at_, at_item (i := 1) (by omega), _, rfl, wa, _, _, _, rfl, rfl, SqL.of W.at_, at_item (i := 3) (by omega), r, A, S, _, _, rfl, R, S1, fun hb2 p H1 a b s1 hp => ?_, fun hb2 => kbad (by rw [hT]; exact hb2)⟩
             refine ⟨p, _, rfl, .inl (SqT.of hp), (by show 3 ≤ sizeLine; decide), fun q nq => ?_⟩
             have hto : testOk S ws = true := by rw [hT]; exact hb2
             generalize hH2 : upd H1 q _ = H2
             have s2 : Same H H2 := by rw [← hH2]; exact s1.trans (Same.new nq)
             have nqo : q ∉ A.own r := fun z => RdAt.tracked (R.same s1) q z nq
             obtain ⟨xs, hq, hx⟩ : ∃ xs, H2 q = some (.tup xs) ∧ xs.length = 3 := ⟨_, by rw [← hH2]; exact upd_same, rfl⟩)
          | (have hT : testOk S ws = ((decide (item ws 2 = "is") && word (item ws 3)) && refOk S (item ws 1)) := by
               unfold testOk
               rw [decide_eq_true h4, if_neg he]
               rfl
             rw [decide_eq_false he]
             refine iteF ?_
             refine ⟨_, rfl, r, dx, _, rfl, ob, noMeth (by decide +kernel), _, rfl, wa, _, _, _, rfl, rfl, SqL.of W.at_, at2, rfl, _, rfl, ?_⟩
             rw [deq]
             rcases Classical.em (item ws 2 = "is") with hi | hi
             all_goals first
               | (have hF : testOk S ws = false := by
                    rw [hT, decide_eq_false hi]
                    rfl
                  rw [decide_eq_false hi]
                  refine iteF ?_
                  exact ⟨r, A, S, false, rfl, R, fun hb => Bool.noConfusion hb, fun _ => kbad hF⟩)
               | (rw [decide_eq_true hi]
                  refine iteT ?_
                  refine ⟨_, rfl, wa, _, _, _, rfl, rfl, SqL.of W.at_, at_item (i := 3) (by omega), _, rfl, okw_le (W.ok _ (item_mem (by omega))), fun H0 s0 => ?_⟩
                  have R0 := R.same s0
                  obtain ⟨dx0, ob0⟩ := R0.ob
                  have w0 := s0 _ _ W.at_
                  refine ⟨r, A, S, word (item ws 3), rfl, R0, fun hw => ?_, fun hw => (kbad (by rw [hT, hw, decide_eq_true hi]; rfl)).before (.of s0)⟩
                  refine ⟨_, rfl, r, dx0, _, rfl, ob0, noMeth (by decide +kernel), _, rfl, wa, _, _, _, rfl, rfl, SqL.of w0, at_item (i := 1) (by omega), r, A, S, _, rfl, R0, S1, W.ok _ (item_mem (by omega)), fun hb2 p H1 a b s1' hp => ?_, fun hb2 => (kbad (by rw [hT, hw, decide_eq_true hi, hb2]; rfl)).before (.of s0)⟩
                  refine ⟨_, rfl, wa, _, _, _, rfl, rfl, SqL.of (s1' _ _ w0), at_item (i := 3) (by omega), (by show 3 ≤ sizeLine; decide), fun q nq => ?_⟩
                  have s1 : Same H H1 := s0.trans s1'
                  have hto : testOk S ws = true := by rw [hT, hw, decide_eq_true hi, hb2]; rfl
                  generalize hH2 : upd H1 q _ = H2
                  have s2 : Same H H2 := by rw [← hH2]; exact s1.trans (Same.new nq)
                  have nqo : q ∉ A.own r := fun z => RdAt.tracked (R.same s1) q z nq
                  obtain ⟨xs, hq, hx⟩ : ∃ xs, H2 q = some (.tup xs) ∧ xs.length = 3 := ⟨_, by rw [← hH2]; exact upd_same, rfl⟩))
        all_goals
          rw [if_pos hto] at kk
          have R2 := R.same s2
          obtain ⟨dx2, ob2⟩ := R2.ob
          refine ⟨_, rfl, r, C, dx2, _, _, rfl, ob2, T.cl, T.at_, rfl, _, _, rfl, rfl, dx2, _, ob2, (by show 10 < 1000; decide), ?_⟩
          generalize hH3 : upd H2 r _ = H3
          have R3 : RdAt C H3 r A S.on := by rw [← hH3]; exact R2.goTo (dx := dx2) (S.pos + 1)
          have b3 : But (A.own r) H H3 := by rw [← hH3]; exact (But.of s2).trans (.upd (by simp [Adr.own]))
          have hq3 : H3 q = some (.tup xs) := by rw [← hH3, upd_ne (fun z => nqo (by rw [z]; simp [Adr.own]))]; exact hq
          obtain ⟨dx3, ob3⟩ := R3.ob
          have f3 := (Adv.step S1 hpos).fine S1
          refine ⟨_, rfl, r, dx3, _, rfl, ob3, noMeth (by decide +kernel), _, rfl, _, _, rfl, rfl, _, rfl, _, _, rfl, rfl, r, A, S.on, d + 1, ifs + 1, rfl, by omega, by omega, by omega, by omega, R3, f3, ?_⟩
          unfold ifRest at kk
          cases hm : blockOf j (d + 1) S.on with
          | bad n =>
            rw [hm] at kk
            exact Bad.before kk b3
          | ok S2 =>
            rw [hm] at kk
            have kk : Comes C cB Q E r A H S 1 (if S2.wordsAt d = [("else" : Str)] then blockOf j (d + 1) S2.on else .ok S2) := kk
            intro p2 xs2 H4 b4 R4 v4 h4' hp4
            have hq4 := b4.keep _ _ hq3 nqo
            have S2f := v4.fine f3
            have vS2 : Adv S S2 := (Adv.step S1 hpos).trans v4
            refine ⟨(by show 0 ≤ sizeLine; decide), fun o no => ?_⟩
            generalize hH5 : upd H4 o _ = H5
            have s5 : Same H4 H5 := by rw [← hH5]; exact Same.new no
            have ho5 : H5 o = some (.tup []) := by rw [← hH5]; exact upd_same
            have R5 := R4.same s5
            obtain ⟨dx5, ob5⟩ := R5.ob
            refine ⟨_, rfl, r, dx5, _, rfl, ob5, noMeth (by decide +kernel), _, rfl, r, A, S2, d, rfl, R5, S2f.p, d0, by omega, fun l H6 s6 nl hl => ?_⟩
            refine ⟨(by show 1 ≤ sizeLine; decide), fun e ne => ?_⟩
            have hle : l ≠ e := ne_of_none hl ne
            refine ⟨pstrs (S2.wordsAt d), pstrs [("else" : Str)], dp_strs (by rw [upd_ne hle]; exact hl), dp_strs upd_same, shaped_strs (S2f.words d).2, shaped_strs (by intro x hx; simp at hx; rw [hx]; decide +kernel), _, rfl, ?_⟩
            rw [eqv_strs]
            generalize hH7 : upd H6 e _ = H7
            have s7 : Same H4 H7 := by rw [← hH7]; exact (s5.trans s6).trans (Same.new ne)
            have b7 : But (A.own r) H H7 := (b3.trans b4).trans (.of s7)
            have R7 := R4.same s7
            obtain ⟨dx7, ob7⟩ := R7.ob
            have hq7 := s7 _ _ hq4
            refine ite2 (fun hel => ?_) (fun hel => ?_)
            · have hel := of_decide_eq_true hel
              rw [if_pos hel] at kk
              have pos2 : S2.pos < S2.ls.length := Rd.more (d := d) (by rw [hel]; simp)
              refine ⟨_, rfl, r, C, dx7, _, _, rfl, ob7, T.cl, T.at_, rfl, _, _, rfl, rfl, dx7, _, ob7, (by show 10 < 1000; decide), ?_⟩
              generalize hH8 : upd H7 r _ = H8
              have R8 : RdAt C H8 r A S2.on := by rw [← hH8]; exact R7.goTo (dx := dx7) (S2.pos + 1)
              have b8 : But (A.own r) H H8 := by rw [← hH8]; exact b7.trans (.upd (by simp [Adr.own]))
              have hq8 : H8 q = some (.tup xs) := by rw [← hH8, upd_ne (fun z => nqo (by rw [z]; simp [Adr.own]))]; exact hq7
              obtain ⟨dx8, ob8⟩ := R8.ob
              have st2 := Adv.step S2f pos2
              refine ⟨_, rfl, r, dx8, _, rfl, ob8, noMeth (by decide +kernel), _, rfl, _, _, rfl, rfl, _, rfl, _, _, rfl, rfl, r, A, S2.on, d + 1, ifs + 1, rfl, by omega, by omega, by omega, by omega, R8, st2.fine S2f, ?_⟩
              cases hm2 : blockOf j (d + 1) S2.on with
              | bad n =>
                rw [hm2] at kk
                exact Bad.before kk b8
              | ok S3 =>
                rw [hm2] at kk
                intro p3 xs3 H9 b9 R9 v9 h9' hp9
                refine ⟨_, rfl, q, xs, rfl, .inl (SqT.of (b9.keep _ _ hq8 nqo)), _, rfl, _, rfl, ?_, fun z nz => ?_⟩
                · show (xs ++ [_, _]).length ≤ sizeLine
                  rw [List.length_append, hx]
                  show 5 ≤ sizeLine
                  decide
                · refine kk z _ _ (b8.trans (b9.trans (.of (Same.new nz)))) (R9.same (Same.new nz)) ((vS2.trans st2).trans v9) ?_ upd_same
                  have a1 := vS2.le
                  have a2 := v9.le
                  have a3 : S2.on.pos = S2.pos + 1 := rfl
                  omega
            · have hel : ¬ S2.wordsAt d = [("else" : Str)] := fun z => hel (decide_eq_true z)
              rw [if_neg hel] at kk
              refine ⟨_, rfl, q, xs, rfl, .inl (SqT.of hq7), _, rfl, _, rfl, ?_, fun z nz => ?_⟩
              · show (xs ++ [_, _]).length ≤ sizeLine
                rw [List.length_append, hx]
                show 5 ≤ sizeLine
                decide
              · refine kk z _ _ (b7.trans (.of (Same.new nz))) (R7.same (Same.new nz)) vS2 ?_ upd_same
                have a2 := v4.le
                have a3 : S.on.pos = S.pos + 1 := rfl
                omega
      · have h4 : ¬ ws.length = 4 := fun z => by
          have := of_decide_eq_false hb
          exact this (by rw [List.length_map, z]; rfl)
        unfold testOk
        rw [decide_eq_false h4]
        rfl
end
end K7
/-! part C5 -/
set_option Elab.async false
set_option linter.all false
set_option maxRecDepth 100000
namespace K7
open PySem L2 Rdr LcX
abbrev sBlock : Stmt := inClass (top 21) 7
section
variable {P : Program} {w : World} {K : PySem.W.Frag} {mg : Str → Option Value} {base : Heap} {C cB fB : Addr} {fdB : FuncData}
theorem sc_block : FnScope ["self", "depth", "ifs", "statements", "words"] ["self", "depth", "ifs"] (defScope sBlock) := ⟨rfl, rfl, rfl, by decide +kernel, rfl, by decide +kernel, by decide +kernel⟩
theorem ok_none {f : Addr} {fd : FuncData} (F : Fun K "read_block" "ProgramReader.read_block" sBlock f fd) {k : Nat} : FnOk P w K mg base (L2.CX P w) (k + 1) f fd ["self", "depth", "ifs"] (spBelow C cB 0) :=
  F.okX sc_block (fun _ _ _ _ h => h.elim) fun _ _ _ _ _ _ _ _ _ h => h.elim
theorem ok_block {f : Addr} {fd : FuncData} {k j : Nat} (hk : 3 ≤ k) (F : Fun K "read_block" "ProgramReader.read_block" sBlock f fd) (T : RT K mg C cB fB fdB) (TC : RC mg) (Gn : MOk P w K mg base 3 C "need" (spNeed C cB)) (Ga : MOk P w K mg base 1 C "words_at" (spWordsAt C))
    (Gs : MOk P w K mg base k C "read_statement" (spStm C cB 1 j stmM)) : FnOk P w K mg base (L2.CX P w) (k + 1) f fd ["self", "depth", "ifs"] (spBlock C cB j) := by
  obtain ⟨tS, cS⟩ := TC.MOST_STATEMENTS
  refine F.okX sc_block (fun vs H Q E h => ?_) (fun cdv A outer s H vs Q E hr h => ?_)
  · obtain ⟨r, A, S, d, ifs, rfl, _⟩ := h
    rfl
  · obtain ⟨r, A, S, d, ifs, rfl, hifs, d0, d1, hj, R, S1, kk⟩ := h
    have hr1 : Room 1 _ := hr.mono (by omega)
    have hr3 : Room 3 _ := hr.mono (by omega)
    refine ⟨_, pss_cons (ps_set (i := 3) sc_block.nd rfl (Or.inl rfl) (pe_lst pa_nil))
      (pss_cons (ps_whileW (passes_of rfl) (ptw_truth (pew_named (i := 4) sc_block.nd rfl (Or.inl rfl) (pew_of (m_meth (pv 0) T.cl Ga hr1 passL (pa_cons (pv 1) pa_nil)))))
          (pss_cons (ps_expr (m_meth (pv 0) T.cl Gn hr3 (passes_call (takes_of rfl rfl rfl rfl) (fun _ _ _ _ z => z)) (pa_cons (pe_cmpR op_lt (pe_callB call_len_seq (by rfl) T.len PySem.boot_len (pa_cons (pv 3) pa_nil)) (pe_glob (v := .int 6) rfl cS ⟨_, rfl⟩) (nomark _)) pa_nil)))
          (pss_one (ps_expr (pe_bm PySem.F.plainAttrs_list PySem.F.slot_list_append PySem.F.type_list_append mt_append (pv 3) (pa_cons (m_meth (pv 0) T.cl Gs hr (passes_call (takes_of rfl rfl rfl rfl) (fun _ _ _ _ z => z)) (pa_cons (pv 4) (pa_cons (pv 1) (pa_cons (pv 2) pa_nil)))) pa_nil))))) pss_nil)
      (pss_cons (ps_expr (m_meth (pv 0) T.cl Gn hr3 (passes_call (takes_of rfl rfl rfl rfl) (fun _ _ _ _ z => z)) (pa_cons (pe_cmpR op_gt (pe_callB call_len_seq (by rfl) T.len PySem.boot_len (pa_cons (pv 3) pa_nil)) pe_int (nomark _)) pa_nil)))
      (pss_one (ps_ret (pe_callTy call_tuple_of (by rfl) T.tuple (by decide +kernel) (pa_cons (pv 3) pa_nil)))))), ?_⟩
    refine ⟨(by show 0 ≤ sizeLine; decide), fun D nD => ?_⟩
    have nDo : D ∉ A.own r := fun z => RdAt.tracked R D z nD
    generalize hH1 : upd H D _ = H1
    have s1 : Same H H1 := by rw [← hH1]; exact Same.new nD
    have R1 : RdAt C H1 r { A with xt := D :: A.xt } S := by rw [← hH1]; exact R.enter nD
    have hD1 : H1 D = some (.lst []) := by rw [← hH1]; exact upd_same
    refine ⟨fun m σ H' => ∃ (S' : Rd) (xs : List V) (v : Option V), σ = [some (.ref r), some (.int d), some (.int ifs), some (.ref D), v] ∧ But (A.own r) H H' ∧ RdAt C H' r { A with xt := D :: A.xt } S' ∧ Adv S S' ∧ H' D = some (.lst xs) ∧ S.ls.length - S'.pos + 1 ≤ m ∧ xs.length ≤ 6 ∧ blockM (stmM j d) d m xs.length S' = blockOf j d S,
      ⟨S.ls.length - S.pos + 1, S, [], none, rfl, .of s1, R1, Adv.refl S1, hD1, Nat.le_refl _, by simp, rfl⟩, ?_⟩
    rintro m σ H2 ⟨S2, xs, v, rfl, b2, R2, v2, hD2, hm, hx6, hM⟩
    have S2f := v2.fine S1
    have ls2 : S2.ls.length = S.ls.length := by rw [v2.eq]
    obtain ⟨dx2, ob2⟩ := R2.ob
    obtain ⟨m, rfl⟩ : ∃ m', m = m' + 1 := ⟨m - 1, by omega⟩
    refine ⟨_, rfl, r, dx2, _, rfl, ob2, noMeth (by decide +kernel), _, rfl, r, { A with xt := D :: A.xt }, S2, d, rfl, R2, S2f.p, d0, by omega, fun a H3 s3 na ha => ?_⟩
    refine ⟨!(S2.wordsAt d).isEmpty, .inl ⟨_, SqL.of ha, by simp [wlist]⟩, ?_⟩
    have hD3 := s3 _ _ hD2
    have R3 := R2.same s3
    have b3 : But (A.own r) H H3 := b2.trans (.of s3)
    obtain ⟨dx3, ob3⟩ := R3.ob
    have lx : (wlist (S2.wordsAt d)).length = (S2.wordsAt d).length := by simp
    by_cases hw : S2.wordsAt d = []
    · rw [hw]
      refine iteF ?_
      have hM : S2.need (decide (0 < xs.length)) (.ok S2) = blockOf j d S := by
        rw [← hM]
        show _ = (if S2.wordsAt d = [] then _ else _)
        rw [if_pos hw]
      rw [← hM, need_eq] at kk
      refine ⟨_, rfl, r, dx3, _, rfl, ob3, noMeth (by decide +kernel), _, rfl, D, _, rfl, .inl (SqL.of hD3), _, _, rfl, rfl, r, { A with xt := D :: A.xt }, S2, _, rfl, R3, fun hb => ?_, fun hb => ?_⟩
      · have h0 : 0 < xs.length := by
          have := of_decide_eq_true hb
          omega
        rw [if_pos (decide_eq_true h0)] at kk
        refine ⟨_, rfl, D, xs, rfl, .inl ⟨SqL.of hD3, fun p np => ?_⟩⟩
        exact kk p xs _ (b3.trans (.of (Same.new np))) (R3.same (Same.new np)).leave v2 v2.le upd_same
      · have h0 : ¬ 0 < xs.length := fun z => by
          have := of_decide_eq_false hb
          omega
        rw [if_neg (fun z => h0 (of_decide_eq_true z))] at kk
        exact Bad.before kk b3
    · have ht : (!(S2.wordsAt d).isEmpty) = true := by
        cases e : S2.wordsAt d with
        | nil => exact absurd e hw
        | cons _ _ => rfl
      rw [ht]
      refine iteT ?_
      have pos2 := Rd.more hw
      have hM : S2.need (decide (xs.length < 6)) ((stmM j d S2 (S2.wordsAt d)).bind (blockM (stmM j d) d m (xs.length + 1))) = blockOf j d S := by
        rw [← hM]
        show _ = (if S2.wordsAt d = [] then _ else _)
        rw [if_neg hw]
      rw [← hM, need_eq] at kk
      rw [need_eq] at hM
      refine ⟨_, fun _ _ z => z, ?_⟩
      refine ⟨_, rfl, r, dx3, _, rfl, ob3, noMeth (by decide +kernel), _, rfl, D, _, rfl, .inl (SqL.of hD3), _, _, rfl, rfl, r, { A with xt := D :: A.xt }, S2, _, rfl, R3, fun hb => ?_, fun hb => ?_⟩
      · have h6 : xs.length < 6 := by
          have := of_decide_eq_true hb
          omega
        rw [if_pos (decide_eq_true h6)] at kk hM
        refine ⟨_, rfl, .inl ⟨rfl, _, SqL.of hD3⟩, _, rfl, r, dx3, _, rfl, ob3, noMeth (by decide +kernel), _, rfl, _, rfl, _, rfl, r, a, { A with xt := D :: A.xt }, S2, S2.wordsAt d, d, ifs, rfl, hifs, d0, d1, hj, R3, S2f, ⟨ha, (S2f.words d).1, (S2f.words d).2⟩, na, pos2, hw, ?_⟩
        cases hs : stmM j d S2 (S2.wordsAt d) with
        | bad n =>
          rw [hs] at kk
          exact Bad.before kk b3
        | ok S3 =>
          rw [hs] at hM
          intro p ys H4 b4 R4 v4 h4 hp4
          have hD4 := b4.keep _ _ hD3 nDo
          have b4' : But (A.own r) H H4 := b3.trans b4
          refine ⟨D, xs, _, rfl, rfl, hD4, ?_, m, Nat.lt_succ_self _, S3, xs ++ [.ref p], some (.ref a), rfl, ⟨fun b o hb' hn => ?_, fun b hb' => b4'.free b (upd_none hb')⟩, R4.store List.mem_cons_self, v2.trans v4, upd_same, by omega, by simp; omega, ?_⟩
          · have := le_line (n := 20002) (by omega)
            omega
          · rw [upd_ne (ne_of_none hb' nD)]
            exact b4'.keep _ _ hb' hn
          · rw [List.length_append]
            exact hM
      · have h6 : ¬ xs.length < 6 := fun z => by
          have := of_decide_eq_false hb
          omega
        rw [if_neg (fun z => h6 (of_decide_eq_true z))] at kk
        exact Bad.before kk b3
end
end K7
/-! part C6 -/
set_option Elab.async false
set_option linter.all false
set_option maxRecDepth 100000
namespace Rdr
open PySem L2
def fieldA (acc ws : List Str) : Bool := decide (acc.length < 2) && (decide (ws.length = 2) && decide (item ws 0 = "field"))
def fieldB (acc ws : List Str) : Bool := word (item ws 1) && (decide (item ws 1 ≠ "key") && !acc.contains (item ws 1))
theorem fieldsM_eq {n : Nat} {S : Rd} {acc : List Str} : fieldsM (n + 1) S acc = if S.wordsAt 1 = [] then .ok (S, acc) else if (fieldA acc (S.wordsAt 1) && fieldB acc (S.wordsAt 1)) = true then fieldsM n S.on (acc ++ [item (S.wordsAt 1) 1]) else .bad ((S.pos : Int) + 1) := by
  show (if S.wordsAt 1 = [] then _ else _) = _
  split
  · rfl
  · unfold fieldA fieldB
    rw [need_need, need_eq]
    simp only [Bool.and_assoc]
end Rdr
namespace K7
open PySem L2 Rdr LcX
abbrev sFields : Stmt := inClass (top 21) 3
theorem deq_str (x y : Str) : decide (V.str x = V.str y) = decide (x = y) := by
  by_cases h : x = y
  · rw [decide_eq_true h, decide_eq_true (congrArg V.str h)]
  · rw [decide_eq_false h, decide_eq_false (fun z => h (V.str.inj z))]
/-- a new list of the fields, the reader further on, or an error -/
def spFields (C cB : Addr) : Sp := fun vs H Q E => ∃ (r : Addr) (A : Adr) (S : Rd), vs = [.ref r] ∧ RdAt C H r A S ∧ Fine S ∧ match fieldsM (S.ls.length - S.pos + 1) S [] with
  | .ok (S', fs) => ∀ (D : Addr) (H' : Hp), But (A.own r) H H' → RdAt C H' r A S' → Adv S S' → fs.length ≤ 2 → H D = none → H' D = some (.lst (wlist fs)) → Q (.ref D) H'
  | .bad n => Bad cB E (A.own r) H n
section
variable {P : Program} {w : World} {K : PySem.W.Frag} {mg : Str → Option Value} {base : Heap} {C cB fB : Addr} {fdB : FuncData}
theorem sc_fields : FnScope ["self", "fields", "words"] ["self"] (defScope sFields) := ⟨rfl, rfl, rfl, by decide +kernel, rfl, by decide +kernel, by decide +kernel⟩
theorem ok_fields {f : Addr} {fd : FuncData} (F : Fun K "read_fields" "ProgramReader.read_fields" sFields f fd) (T : RT K mg C cB fB fdB) (TC : RC mg) (Gn : MOk P w K mg base 3 C "need" (spNeed C cB)) (Ga : MOk P w K mg base 1 C "words_at" (spWordsAt C)) (Gw : DOk P w K mg base 1 "is_word" spWord) :
    FnOk P w K mg base (L2.CX P w) 4 f fd ["self"] (spFields C cB) := by
  obtain ⟨tS, cS⟩ := TC.MOST_FIELDS
  refine F.okX sc_fields (fun vs H Q E h => ?_) (fun cdv A outer s H vs Q E hr h => ?_)
  · obtain ⟨r, A, S, rfl, _⟩ := h
    rfl
  · obtain ⟨r, A, S, rfl, R, S1, kk⟩ := h
    have hr3 : Room 3 _ := hr
    have hr1 : Room 1 _ := hr.mono (by decide)
    refine ⟨_, pss_cons (ps_set (i := 1) sc_fields.nd rfl (Or.inl rfl) (pe_lst pa_nil))
      (pss_cons (ps_whileW (passes_of rfl) (ptw_truth (pew_named (i := 2) sc_fields.nd rfl (Or.inl rfl) (pew_of (m_meth (pv 0) T.cl Ga hr1 passL (pa_cons pe_int pa_nil)))))
          (pss_cons (ps_expr (m_meth (pv 0) T.cl Gn hr3 (passes_call (takes_of rfl rfl rfl rfl) (fun _ _ _ _ z => z)) (pa_cons (pe_and (pe_cmpR op_lt (pe_callB call_len_seq (by rfl) T.len PySem.boot_len (pa_cons (pv 1) pa_nil)) (pe_glob (v := .int 2) rfl cS ⟨_, rfl⟩) (nomark _))
              (pe_and (pe_cmpR op_eq (pe_callB call_len_seq (by rfl) T.len PySem.boot_len (pa_cons (pv 2) pa_nil)) pe_int (nomark _)) (pe_one (pe_cmpR op_eq (pe_ix ix_list (pv 2) pe_int (fun _ _ => rfl)) pe_str (nomark _))))) pa_nil)))
          (pss_cons (ps_expr (m_meth (pv 0) T.cl Gn hr3 (passes_call (takes_of rfl rfl rfl rfl) (fun _ _ _ _ z => z)) (pa_cons (pe_and (f_call Gw hr1 passL (pa_cons (pe_ix ix_list (pv 2) pe_int (fun _ _ => rfl)) pa_nil))
              (pe_and (pe_cmpR op_ne (pe_ix ix_list (pv 2) pe_int (fun _ _ => rfl)) pe_str (nomark _)) (pe_one (pe_cmpR op_notIn_seq (pe_ix ix_list (pv 2) pe_int (fun _ _ => rfl)) (pv 1) (by rfl))))) pa_nil)))
          (pss_cons (ps_expr (pe_bm PySem.F.plainAttrs_list PySem.F.slot_list_append PySem.F.type_list_append mt_append (pv 1) (pa_cons (pe_ix ix_list (pv 2) pe_int (fun _ _ => rfl)) pa_nil)))
          (pss_one (ps_fldaug (pv 0) pe_int in_add))))) pss_nil)
      (pss_one (ps_ret (pv 1)))), ?_⟩
    refine ⟨(by show 0 ≤ sizeLine; decide), fun D nD => ?_⟩
    have nDo : D ∉ A.own r := fun z => RdAt.tracked R D z nD
    generalize hH1 : upd H D _ = H1
    have s1 : Same H H1 := by rw [← hH1]; exact Same.new nD
    have R1 : RdAt C H1 r { A with xt := D :: A.xt } S := by rw [← hH1]; exact R.enter nD
    have hD1 : H1 D = some (.lst (wlist [])) := by rw [← hH1]; exact upd_same
    refine ⟨fun m σ H' => ∃ (S' : Rd) (acc : List Str) (v : Option V), σ = [some (.ref r), some (.ref D), v] ∧ But (A.own r) H H' ∧ RdAt C H' r { A with xt := D :: A.xt } S' ∧ Adv S S' ∧ H' D = some (.lst (wlist acc)) ∧ S.ls.length - S'.pos + 1 ≤ m ∧ acc.length ≤ 2 ∧ fieldsM m S' acc = fieldsM (S.ls.length - S.pos + 1) S [],
      ⟨S.ls.length - S.pos + 1, S, [], none, rfl, .of s1, R1, Adv.refl S1, hD1, Nat.le_refl _, by simp, rfl⟩, ?_⟩
    rintro m σ H2 ⟨S2, acc, v, rfl, b2, R2, v2, hD2, hm, hx2, hM⟩
    have S2f := v2.fine S1
    have ls2 : S2.ls.length = S.ls.length := by rw [v2.eq]
    obtain ⟨dx2, ob2⟩ := R2.ob
    obtain ⟨m, rfl⟩ : ∃ m', m = m' + 1 := ⟨m - 1, by omega⟩
    refine ⟨_, rfl, r, dx2, _, rfl, ob2, noMeth (by decide +kernel), r, { A with xt := D :: A.xt }, S2, 1, rfl, R2, S2f.p, by decide, by decide, fun a H3 s3 na ha => ?_⟩
    refine ⟨!(S2.wordsAt 1).isEmpty, .inl ⟨_, SqL.of ha, by simp [wlist]⟩, ?_⟩
    have hD3 := s3 _ _ hD2
    have R3 := R2.same s3
    have b3 : But (A.own r) H H3 := b2.trans (.of s3)
    obtain ⟨dx3, ob3⟩ := R3.ob
    rw [fieldsM_eq] at hM
    by_cases hw : S2.wordsAt 1 = []
    · rw [hw]
      refine iteF ?_
      rw [if_pos hw] at hM
      rw [← hM] at kk
      exact ⟨_, rfl, kk D H3 b3 R3.leave v2 hx2 nD hD3⟩
    · have ht : (!(S2.wordsAt 1).isEmpty) = true := by
        cases e : S2.wordsAt 1 with
        | nil => exact absurd e hw
        | cons _ _ => rfl
      rw [ht]
      refine iteT ?_
      rw [if_neg hw] at hM
      have pos2 := Rd.more hw
      have W := S2f.words 1
      generalize hws : S2.wordsAt 1 = ws at *
      have bad : (fieldA acc ws && fieldB acc ws) = false → Bad cB E (A.own r) H ((S2.pos : Int) + 1) := fun hb => by
        rw [if_neg (by rw [hb]; simp)] at hM
        rw [← hM] at kk
        exact kk
      have badA : fieldA acc ws = false → Bad cB E (A.own r) H ((S2.pos : Int) + 1) := fun hb => bad (by rw [hb]; rfl)
      have badB : fieldB acc ws = false → Bad cB E (A.own r) H ((S2.pos : Int) + 1) := fun hb => bad (by rw [hb]; simp)
      refine ⟨_, fun _ _ z => z, ?_⟩
      have lws : (wlist ws).length = ws.length := by simp
      have lac : (wlist acc).length = acc.length := by simp
      refine ⟨_, rfl, r, dx3, _, rfl, ob3, noMeth (by decide +kernel), _, rfl, D, _, rfl, .inl (SqL.of hD3), _, _, rfl, rfl, _, rfl, ?_⟩
      rw [lac]
      refine ite2 (fun h1 => ?_) (fun h1 => ?_)
      · have h1 : acc.length < 2 := by have := of_decide_eq_true h1; omega
        refine ⟨_, rfl, a, _, rfl, .inl (SqL.of ha), rfl, _, rfl, ?_⟩
        rw [lws]
        refine ite2 (fun h2 => ?_) (fun h2 => ?_)
        · have h2 : ws.length = 2 := by have := V.int.inj (of_decide_eq_true h2); omega
          refine ⟨_, rfl, a, _, _, _, rfl, rfl, SqL.of ha, at_item (i := 0) (by omega), rfl, r, { A with xt := D :: A.xt }, S2, _, rfl, R3, fun hb => ?_, fun hb => Bad.before (badA (by unfold fieldA; rw [← deq_str, hb]; simp)) b3⟩
          have hA : fieldA acc ws = true := by
            unfold fieldA
            rw [decide_eq_true h1, decide_eq_true h2, ← deq_str, hb]
            rfl
          refine ⟨_, rfl, r, dx3, _, rfl, ob3, noMeth (by decide +kernel), _, rfl, a, _, _, _, rfl, rfl, SqL.of ha, at_item (i := 1) (by omega), _, rfl, okw_le (W.2 _ (item_mem (by omega))), fun H4 s4 => ⟨_, rfl, ?_⟩⟩
          have R4 := R3.same s4
          have b4 : But (A.own r) H H4 := b3.trans (.of s4)
          obtain ⟨dx4, ob4⟩ := R4.ob
          have ha4 := s4 _ _ ha
          have hD4 := s4 _ _ hD3
          refine ite2 (fun h3 => ?_) (fun h3 => ?_)
          · refine ⟨_, rfl, a, _, _, _, rfl, rfl, SqL.of ha4, at_item (i := 1) (by omega), rfl, _, rfl, ?_⟩
            rw [deq_str]
            refine ite2 (fun h4 => ?_) (fun h4 => ?_)
            · refine ⟨_, rfl, a, _, _, _, rfl, rfl, SqL.of ha4, at_item (i := 1) (by omega), _, rfl, _, _, rfl, .inl (SqL.of hD4), rfl, flat_wlist, ?_⟩
              have e1 : (if true = true then !inV (V.str (item ws 1)) (wlist acc) else inV (V.str (item ws 1)) (wlist acc)) = !acc.contains (item ws 1) := by rw [if_pos rfl, in_wlist]
              rw [e1]
              have hne : decide (item ws 1 ≠ "key") = true := by simpa using h4
              refine ⟨r, { A with xt := D :: A.xt }, S2, _, rfl, R4, fun hb5 => ?_, fun hb5 => Bad.before (badB (by unfold fieldB; rw [hb5]; simp)) b4⟩
              have hB : fieldB acc ws = true := by
                unfold fieldB
                rw [h3, hne, hb5]
                rfl
              rw [if_pos (by rw [hA, hB]; rfl)] at hM
              refine ⟨_, rfl, .inl ⟨rfl, _, SqL.of hD4⟩, _, rfl, a, _, _, _, rfl, rfl, SqL.of ha4, at_item (i := 1) (by omega), D, _, _, rfl, rfl, hD4, ?_, ?_⟩
              · have := le_line (n := 20002) (by omega)
                omega
              generalize hH5 : upd H4 D _ = H5
              have R5 : RdAt C H5 r { A with xt := D :: A.xt } S2 := by rw [← hH5]; exact R4.store List.mem_cons_self
              have b5 : But (A.own r) H H5 := by
                rw [← hH5]
                exact ⟨fun b o hb' hn => by rw [upd_ne (ne_of_none hb' nD)]; exact b4.keep _ _ hb' hn, fun b hb' => b4.free b (upd_none hb')⟩
              have hD5 : H5 D = some (.lst (wlist (acc ++ [item ws 1]))) := by rw [← hH5, upd_same]; simp [wlist]
              obtain ⟨dx5, ob5⟩ := R5.ob
              refine ⟨_, rfl, r, C, dx5, _, _, rfl, ob5, T.cl, T.at_, rfl, _, _, rfl, rfl, dx5, _, ob5, (by show 10 < 1000; decide), m, Nat.lt_succ_self _, S2.on, acc ++ [item ws 1], some (.ref a), rfl, b5.trans (.upd (by simp [Adr.own])), R5.goTo (dx := dx5) (S2.pos + 1), v2.trans (Adv.step S2f pos2), ?_, ?_, by simp; omega, hM⟩
              · have : D ≠ r := fun z => nDo (by rw [z]; simp [Adr.own])
                rw [upd_ne this]
                exact hD5
              · show S.ls.length - (S2.pos + 1) + 1 ≤ m
                omega
            · have hne : decide (item ws 1 ≠ "key") = false := by simpa using h4
              exact ⟨r, { A with xt := D :: A.xt }, S2, false, rfl, R4, fun hb => Bool.noConfusion hb, fun _ => Bad.before (badB (by unfold fieldB; rw [hne]; simp)) b4⟩
          · have h3 : word (item ws 1) = false := by simpa using h3
            exact ⟨r, { A with xt := D :: A.xt }, S2, false, rfl, R4, fun hb => Bool.noConfusion hb, fun _ => Bad.before (badB (by unfold fieldB; rw [h3]; rfl)) b4⟩
        · have h2 : ¬ ws.length = 2 := fun z => h2 (decide_eq_true (by rw [z]; rfl))
          exact ⟨r, { A with xt := D :: A.xt }, S2, false, rfl, R3, fun hb => Bool.noConfusion hb, fun _ => Bad.before (badA (by unfold fieldA; rw [decide_eq_false h2]; simp)) b3⟩
      · have h1 : ¬ acc.length < 2 := fun z => h1 (decide_eq_true (by omega))
        exact ⟨r, { A with xt := D :: A.xt }, S2, false, rfl, R3, fun hb => Bool.noConfusion hb, fun _ => Bad.before (badA (by unfold fieldA; rw [decide_eq_false h1]; simp)) b3⟩
end
end K7
/-! part C7 -/
set_option Elab.async false
set_option linter.all false
set_option maxRecDepth 100000
namespace Rdr
open PySem L2
def outerOf (ws : List Str) : Str := if ws.length = 4 then item ws 3 else ""
def kindA (S : Rd) (ws : List Str) : Bool := decide (S.kinds.length < 4) && (decide (ws.length = 2) || decide (ws.length = 4))
def kindB (S : Rd) (ws : List Str) : Bool := word (item ws 1) && (S.chains.lookup (item ws 1)).isNone
def kindC (S : Rd) (ws : List Str) : Bool := !decide (ws.length = 4) || ((decide (item ws 2 = "in") && (S.chains.lookup (item ws 3)).isSome) && decide ((chainOf S (item ws 3)).length < 3))
def kindEnd (ws : List Str) (S1 : Rd) (fs : List Str) : Rd := { S1 with kinds := S1.kinds ++ [(item ws 1, outerOf ws, fs)], chains := S1.chains ++ [(item ws 1, chainOf S1 (outerOf ws) ++ [item ws 1])], fields := S1.fields ++ [(item ws 1, ("key" : Str) :: fs)] }
theorem kindM_eq {S : Rd} {ws : List Str} (hp : S.pos < S.ls.length) : kindM S ws = if (kindA S ws && (kindB S ws && kindC S ws)) = true then (fieldsM (S.on.ls.length - S.on.pos + 1) S.on []).bind (fun x => .ok (kindEnd ws x.1 x.2)) else .bad ((S.pos : Int) + 1) := by
  have e : S.ls.length - S.pos = S.on.ls.length - S.on.pos + 1 := by
    show S.ls.length - S.pos = S.ls.length - (S.pos + 1) + 1
    omega
  unfold kindM kindC
  rw [e]
  unfold kindA kindB
  simp only [need_eq]
  by_cases h4 : ws.length = 4
  · have eo : outerOf ws = item ws 3 := if_pos h4
    unfold kindEnd
    rw [eo, if_pos h4, decide_eq_true h4]
    generalize decide (S.kinds.length < 4) = a
    generalize decide (ws.length = 2) = a2
    generalize word (item ws 1) = b1
    generalize (S.chains.lookup (item ws 1)).isNone = b2
    generalize decide (item ws 2 = "in") = c1
    generalize (S.chains.lookup (item ws 3)).isSome = c2
    generalize decide ((chainOf S (item ws 3)).length < 3) = c3
    cases a <;> cases a2 <;> cases b1 <;> cases b2 <;> cases c1 <;> cases c2 <;> cases c3 <;> rfl
  · have eo : outerOf ws = "" := if_neg h4
    unfold kindEnd
    rw [eo, if_neg h4, decide_eq_false h4]
    generalize decide (S.kinds.length < 4) = a
    generalize decide (ws.length = 2) = a2
    generalize word (item ws 1) = b1
    generalize (S.chains.lookup (item ws 1)).isNone = b2
    cases a <;> cases a2 <;> cases b1 <;> cases b2 <;> rfl
theorem look_mem {β : Type} {x : Str} : ∀ {l : List (Str × β)}, l.lookup x = none ↔ x ∉ l.map (·.1)
  | [] => by simp
  | (k, v) :: r => by
    have ih := look_mem (x := x) (l := r)
    rw [look_cons]
    by_cases h : k = x
    · simp [h]
    · rw [if_neg h, ih]
      simp [Ne.symm h]
theorem look_app {β : Type} {x k : Str} {v : β} : ∀ {l : List (Str × β)}, ((l.lookup x).isSome = true ∨ k = x) → ((l ++ [(k, v)]).lookup x).isSome = true
  | [], h => by
    rcases h with h | h
    · simp at h
    · show (List.lookup x [(k, v)]).isSome = true
      rw [look_cons, if_pos h]
      rfl
  | (k', v') :: r, h => by
    show (List.lookup x ((k', v') :: (r ++ [(k, v)]))).isSome = true
    rw [look_cons] at h ⊢
    by_cases h' : k' = x
    · simp [h']
    · rw [if_neg h'] at h ⊢
      exact look_app h
theorem look_in {β : Type} {x : Str} {v : β} : ∀ {l : List (Str × β)}, l.lookup x = some v → (x, v) ∈ l
  | (k, v') :: r, h => by
    rw [look_cons] at h
    by_cases h' : k = x
    · rw [if_pos h'] at h
      cases h
      rw [h']
      exact List.mem_cons_self
    · rw [if_neg h'] at h
      exact List.mem_cons_of_mem _ (look_in h)
theorem no_empty {S : Rd} (h : Fine S) : S.chains.lookup ("" : Str) = none := by
  refine look_mem.mpr fun z => ?_
  obtain ⟨c, hc, e⟩ := List.mem_map.mp z
  have := h.kw c hc
  rw [e] at this
  exact absurd this (by decide)
theorem kind_fine {S : Rd} {ws fs : List Str} (h : Fine S) (hk : S.kinds.length < 4) (hB : kindB S ws = true) (hC : kindC S ws = true) (hf : fs.length ≤ 2) : Fine (kindEnd ws S fs) := by
  unfold kindB at hB
  obtain ⟨hw, hn⟩ := Bool.and_eq_true_iff.mp hB
  have ch : (chainOf S (outerOf ws)).length ≤ 2 ∧ ∀ x ∈ chainOf S (outerOf ws), (S.fields.lookup x).isSome = true := by
    unfold outerOf chainOf
    by_cases h4 : ws.length = 4
    · rw [if_pos h4]
      unfold kindC at hC
      rw [decide_eq_true h4] at hC
      obtain ⟨_, h3⟩ := Bool.and_eq_true_iff.mp hC
      have h3 := of_decide_eq_true h3
      unfold chainOf at h3
      cases e : S.chains.lookup (item ws 3) with
      | none => simp
      | some c =>
        rw [e] at h3
        have h3 : c.length < 3 := h3
        exact ⟨by show c.length ≤ 2; omega, (h.cf _ (look_in e)).2⟩
    · rw [if_neg h4, no_empty h]
      simp
  unfold kindEnd
  refine ⟨h.p, h.n, h.ws, ?_, ?_, ?_, ?_, ?_, ?_, h.l, h.w, h.q, ?_, ?_, ?_⟩
  · show (S.kinds ++ [_]).length ≤ 4
    simp
    omega
  · show (S.chains ++ [_]).length = (S.kinds ++ [_]).length
    simp [h.c]
  · show (S.fields ++ [_]).length = (S.kinds ++ [_]).length
    simp [h.f]
  · intro c hc
    rcases List.mem_append.mp hc with hc | hc
    · exact ⟨(h.cf c hc).1, fun x hx => look_app (.inl ((h.cf c hc).2 x hx))⟩
    · have : c = (item ws 1, chainOf S (outerOf ws) ++ [item ws 1]) := by simpa using hc
      subst this
      refine ⟨by simp; exact ch.1, fun x hx => look_app ?_⟩
      rcases List.mem_append.mp hx with hx | hx
      · exact .inl (ch.2 x hx)
      · have hx : x = item ws 1 := by simpa using hx
        exact .inr hx.symm
  · intro c hc
    rcases List.mem_append.mp hc with hc | hc
    · exact h.ff c hc
    · have : c = (item ws 1, ("key" : Str) :: fs) := by simpa using hc
      subst this
      simp
      exact hf
  · exact ⟨h.nf.1, fun x hx => look_app (.inl (h.nf.2 x hx))⟩
  · show (S.fields ++ [(item ws 1, (("key" : Str) :: fs))]).map (·.1) = (S.chains ++ [(item ws 1, chainOf S (outerOf ws) ++ [item ws 1])]).map (·.1)
    rw [List.map_append, List.map_append, h.ck]
    rfl
  · intro c hc
    rcases List.mem_append.mp hc with hc | hc
    · exact h.kw c hc
    · have : c = (item ws 1, chainOf S (outerOf ws) ++ [item ws 1]) := by simpa using hc
      rw [this]
      exact hw
  · intro c hc
    rcases List.mem_append.mp hc with hc | hc
    · exact h.kn c hc
    · have : c = (item ws 1, outerOf ws, fs) := by simpa using hc
      rw [this]
      exact hw
theorem inV_24 {n : Nat} : (if false = true then !inV (V.int (n : Int)) [V.int 2, V.int 4] else inV (V.int (n : Int)) [V.int 2, V.int 4]) = (decide (n = 2) || decide (n = 4)) := by
  show ((2 : Int) == (n : Int) || ((4 : Int) == (n : Int) || false)) = _
  by_cases h2 : n = 2
  · subst h2; rfl
  · by_cases h4 : n = 4
    · subst h4; rfl
    · have a : ((2 : Int) == (n : Int)) = false := by simp; omega
      have b : ((4 : Int) == (n : Int)) = false := by simp; omega
      rw [a, b]
      simp [h2, h4]
end Rdr
namespace K7
open PySem L2 Rdr LcX
theorem RdAt.trackedA {C r : Addr} {H : Hp} {A : Adr} {S : Rd} (h : RdAt C H r A S) : ∀ q, H q = none → q ∉ A.all r := fun q hq z => by
  rcases List.mem_append.mp z with z | z
  · exact RdAt.tracked h q z hq
  · exact (h.xt q z).1 hq
abbrev sKind : Stmt := inClass (top 21) 2
def spKind (C cB : Addr) : Sp := fun vs H Q E => ∃ (r wa : Addr) (A : Adr) (S : Rd) (ws : List Str), vs = [.ref r, .ref wa] ∧ RdAt C H r A S ∧ Fine S ∧ Words H wa ws ∧ wa ∉ A.own r ∧ S.pos < S.ls.length ∧ match kindM S ws with
  | .ok S' => ∀ (H' : Hp), But (A.own r) H H' → RdAt C H' r A S' → Fine S' → S.pos < S'.pos → S'.ls = S.ls → Q .non H'
  | .bad n => Bad cB E (A.own r) H n
section
variable {P : Program} {w : World} {K : PySem.W.Frag} {mg : Str → Option Value} {base : Heap} {C cB fB : Addr} {fdB : FuncData}
theorem sc_kind : FnScope ["self", "words", "name", "outer", "fields"] ["self", "words"] (defScope sKind) := ⟨rfl, rfl, rfl, by decide +kernel, rfl, by decide +kernel, by decide +kernel⟩
theorem ok_kind {f : Addr} {fd : FuncData} (F : Fun K "read_kind" "ProgramReader.read_kind" sKind f fd) (T : RT K mg C cB fB fdB) (TC : RC mg) (Gn : MOk P w K mg base 3 C "need" (spNeed C cB)) (Gf : MOk P w K mg base 4 C "read_fields" (spFields C cB)) (Gw : DOk P w K mg base 1 "is_word" spWord) :
    FnOk P w K mg base (L2.CX P w) 5 f fd ["self", "words"] (spKind C cB) := by
  obtain ⟨tA, cA⟩ := TC.MOST_KINDS
  obtain ⟨tC, cC⟩ := TC.MOST_KINDS_IN_ONE_ANOTHER
  refine F.okX sc_kind (fun vs H Q E h => ?_) (fun cdv A outer s H vs Q E hr h => ?_)
  · obtain ⟨r, wa, A, S, ws, rfl, _⟩ := h
    rfl
  · obtain ⟨r, wa, A, S, ws, rfl, R, S1, W, hwa, hpos, kk⟩ := h
    have hr4 : Room 4 _ := hr
    have hr3 : Room 3 _ := hr.mono (by decide)
    have hr1 : Room 1 _ := hr.mono (by decide)
    have hu := hu_of hr
    refine ⟨_, pss_cons (ps_expr (m_meth (pv 0) T.cl Gn hr3 (passes_call (takes_of rfl rfl rfl rfl) (fun _ _ _ _ z => z)) (pa_cons (pe_and (pe_cmpR op_lt (pe_callB call_len_seq (by rfl) T.len PySem.boot_len (pa_cons (pe_fld (pv 0) rfl) pa_nil)) (pe_glob (v := .int 4) rfl cA ⟨_, rfl⟩) (nomark _))
          (pe_one (pe_cmpR op_in_seq (pe_callB call_len_seq (by rfl) T.len PySem.boot_len (pa_cons (pv 1) pa_nil)) (pe_tup (pa_cons pe_int (pa_cons pe_int pa_nil))) (by rfl)))) pa_nil)))
      (pss_cons (ps_set (i := 2) sc_kind.nd rfl (Or.inl rfl) (pe_ix ix_list (pv 1) pe_int (fun _ _ => rfl)))
      (pss_cons (ps_expr (m_meth (pv 0) T.cl Gn hr3 (passes_call (takes_of rfl rfl rfl rfl) (fun _ _ _ _ z => z)) (pa_cons (pe_and (f_call Gw hr1 passL (pa_cons (pv 2) pa_nil)) (pe_one (pe_cmp (pc_dnotin hu (pv 2) (pe_fld (pv 0) rfl)) rfl))) pa_nil)))
      (pss_cons (ps_set (i := 3) sc_kind.nd rfl (Or.inl rfl) pe_str)
      (pss_cons (ps_if (pt_cmpR op_eq (pe_callB call_len_seq (by rfl) T.len PySem.boot_len (pa_cons (pv 1) pa_nil)) pe_int (nomark _))
          (pss_cons (ps_set (i := 3) sc_kind.nd rfl (Or.inl rfl) (pe_ix ix_list (pv 1) pe_int (fun _ _ => rfl)))
          (pss_cons (ps_expr (m_meth (pv 0) T.cl Gn hr3 (passes_call (takes_of rfl rfl rfl rfl) (fun _ _ _ _ z => z)) (pa_cons (pe_and (pe_cmpR op_eq (pe_ix ix_list (pv 1) pe_int (fun _ _ => rfl)) pe_str (nomark _)) (pe_one (pe_cmp (pc_din hu (pv 3) (pe_fld (pv 0) rfl)) rfl))) pa_nil)))
          (pss_one (ps_expr (m_meth (pv 0) T.cl Gn hr3 (passes_call (takes_of rfl rfl rfl rfl) (fun _ _ _ _ z => z)) (pa_cons (pe_cmpR op_lt (pe_callB call_len_seq (by rfl) T.len PySem.boot_len (pa_cons (pe_dget hu (pe_fld (pv 0) rfl) (pv 3) (fun _ _ => rfl)) pa_nil)) (pe_glob (v := .int 3) rfl cC ⟨_, rfl⟩) (nomark _)) pa_nil)))))) pss_nil)
      (pss_cons (ps_fldaug (pv 0) pe_int in_add)
      (pss_cons (ps_set (i := 4) sc_kind.nd rfl (Or.inl rfl) (m_meth0 (pv 0) T.cl Gf hr4 (passes_call (takes_of rfl rfl rfl rfl) (fun _ _ _ _ z => z))))
      (pss_cons (ps_expr (pe_bm PySem.F.plainAttrs_list PySem.F.slot_list_append PySem.F.type_list_append mt_append (pe_fld (pv 0) rfl) (pa_cons (pe_tup (pa_cons (pv 2) (pa_cons (pv 3) (pa_cons (pe_callTy call_tuple_of (by rfl) T.tuple (by decide +kernel) (pa_cons (pv 4) pa_nil)) pa_nil)))) pa_nil)))
      (pss_cons (ps_dput hu (pe_fld (pv 0) rfl) (pv 2) (pe_op op_catA (pe_dget2 hu (pe_fld (pv 0) rfl) (pv 3) (pe_tup pa_nil) ⟨rfl, rfl, rfl, rfl⟩) (pe_tup (pa_cons (pv 2) pa_nil))) rfl)
      (pss_one (ps_dput hu (pe_fld (pv 0) rfl) (pv 2) (pe_op op_cat (pe_lst (pa_cons pe_str pa_nil)) (pv 4)) rfl)))))))))), ?_⟩
    obtain ⟨dx, ob⟩ := R.ob
    obtain ⟨kv, k1, k2⟩ := R.kl
    have lkv := k2.length
    rw [kindM_eq hpos] at kk
    have bad : (kindA S ws && (kindB S ws && kindC S ws)) = false → Bad cB E (A.own r) H ((S.pos : Int) + 1) := fun hb => by
      rw [if_neg (by rw [hb]; simp)] at kk
      exact kk
    have lws : (wlist ws).length = ws.length := by simp
    refine ⟨_, rfl, r, dx, _, rfl, ob, noMeth (by decide +kernel), _, rfl, r, C, dx, _, _, rfl, ob, T.cl, T.kinds, rfl, A.kl, _, rfl, .inl (SqL.of k1), _, _, rfl, rfl, _, rfl, ?_⟩
    refine ite2 (fun h1 => ?_) (fun h1 => ?_)
    · have h1 : S.kinds.length < 4 := by have := of_decide_eq_true h1; omega
      refine ⟨_, rfl, wa, _, rfl, .inl (SqL.of W.at_), (by show 2 ≤ sizeLine; decide), fun t nt => ?_⟩
      refine ⟨_, _, rfl, .inr (SqT.of upd_same), rfl, rfl, ?_⟩
      have s1 := Same.new (o := .tup [V.int 2, V.int 4]) nt
      rw [lws, inV_24]
      have R1 := R.same s1
      obtain ⟨dx1, ob1⟩ := R1.ob
      obtain ⟨cv1, c1, c2⟩ := R1.cd
      have w1 := s1 _ _ W.at_
      refine ⟨r, A, S, _, rfl, R1, fun hb => ?_, fun hb => (bad (by unfold kindA; rw [hb]; simp)).before (.of s1)⟩
      have hA : kindA S ws = true := by unfold kindA; rw [hb, decide_eq_true h1]; rfl
      have h2 : 2 ≤ ws.length := by
        rcases Bool.or_eq_true_iff.mp hb with z | z
        · have := of_decide_eq_true z; omega
        · have := of_decide_eq_true z; omega
      refine ⟨_, rfl, wa, _, _, _, rfl, rfl, SqL.of w1, at_item (i := 1) (by omega), ?_⟩
      refine ⟨_, rfl, r, dx1, _, rfl, ob1, noMeth (by decide +kernel), _, rfl, _, rfl, okw_le (W.ok _ (item_mem (by omega))), fun H2 s2 => ⟨_, rfl, ?_⟩⟩
      have s12 := s1.trans s2
      have R2 := R.same s12
      obtain ⟨dx2, ob2⟩ := R2.ob
      obtain ⟨cv, c1, c2⟩ := R2.cd
      have w2 := s12 _ _ W.at_
      refine ite2 (fun h3 => ?_) (fun h3 => ?_)
      · refine ⟨_, rfl, _, rfl, r, C, dx2, _, _, rfl, ob2, T.cl, T.chains, rfl, A.cd, _, rfl, DGet.k (k := Sum.inr (item ws 1)) c1, r, A, S, _, rfl, R2, fun hb2 => ?_, fun hb2 => (bad ?_).before (.of s12)⟩
        · have hv : valV cv (.inr (item ws 1) : Key) = none := by
            cases e : valV cv (.inr (item ws 1) : Key) with
            | none => rfl
            | some _ => rw [e] at hb2; cases hb2
          have hl : S.chains.lookup (item ws 1) = none := by
            cases e : S.chains.lookup (item ws 1) with
            | none => rfl
            | some c =>
              obtain ⟨_, z, _⟩ := (ch_get c2).1 c e
              rw [hv] at z
              cases z
          have hB : kindB S ws = true := by unfold kindB; rw [h3, hl]; rfl
          refine ⟨_, rfl, wa, _, rfl, .inl (SqL.of w2), rfl, _, rfl, ?_⟩
          rw [lws]
          have out : ∃ o, o = outerOf ws := ⟨_, rfl⟩
          rcases Classical.em (ws.length = 4) with h4 | h4
          all_goals first
            | (rw [decide_eq_true (show V.int (ws.length : Int) = V.int 4 by rw [h4]; rfl)]
               refine iteT ?_
               refine ⟨_, rfl, wa, _, _, _, rfl, rfl, SqL.of w2, at_item (i := 3) (by omega), ?_⟩
               have kC : kindC S ws = ((decide (item ws 2 = "in") && (S.chains.lookup (item ws 3)).isSome) && decide ((chainOf S (item ws 3)).length < 3)) := by unfold kindC; rw [decide_eq_true h4]; rfl
               refine ⟨_, rfl, r, dx2, _, rfl, ob2, noMeth (by decide +kernel), _, rfl, wa, _, _, _, rfl, rfl, SqL.of w2, at_item (i := 2) (by omega), rfl, _, rfl, ?_⟩
               rw [deq_str]
               rcases Classical.em (item ws 2 = "in") with h5 | h5
               all_goals first
                 | (rw [decide_eq_false h5]
                    refine iteF ?_
                    exact ⟨r, A, S, false, rfl, R2, fun hb => Bool.noConfusion hb, fun _ => (bad (by rw [kC, decide_eq_false h5]; simp)).before (.of s12)⟩)
                 | (rw [decide_eq_true h5]
                    refine iteT ?_
                    refine ⟨_, rfl, _, rfl, r, C, dx2, _, _, rfl, ob2, T.cl, T.chains, rfl, A.cd, _, rfl, DGet.k (k := Sum.inr (item ws 3)) c1, ?_⟩
                    rcases Option.eq_none_or_eq_some (S.chains.lookup (item ws 3)) with h6 | ⟨ch, h6⟩
                    all_goals first
                      | (rw [(ch_get c2).2 h6]
                         exact ⟨r, A, S, false, rfl, R2, fun hb => Bool.noConfusion hb, fun _ => (bad (by rw [kC, h6]; simp)).before (.of s12)⟩)
                      | (obtain ⟨ta, hv3, hta⟩ := (ch_get c2).1 ch h6
                         have dg : DGet H2 A.cd (.str (item ws 3)) (some (.ref ta)) := by rw [← hv3]; exact DGet.k (k := Sum.inr (item ws 3)) c1
                         rw [hv3]
                         refine ⟨r, A, S, true, rfl, R2, fun _ => ?_, fun hb => Bool.noConfusion hb⟩
                         have lch : (wlist ch).length = ch.length := by simp
                         have hch : chainOf S (item ws 3) = ch := by unfold chainOf; rw [h6]; rfl
                         refine ⟨_, rfl, r, dx2, _, rfl, ob2, noMeth (by decide +kernel), _, rfl, r, C, dx2, _, _, rfl, ob2, T.cl, T.chains, rfl, _, rfl, A.cd, _, rfl, dg, ta, _, rfl, .inr (SqT.of hta.1), _, _, rfl, rfl, r, A, S, _, rfl, R2, fun hb7 => ?_, fun hb7 => (bad (by
                           have : ¬ ch.length < 3 := fun z => by
                             have := of_decide_eq_false hb7
                             omega
                           rw [kC, hch, decide_eq_false this]; simp)).before (.of s12)⟩
                         have hC : kindC S ws = true := by
                           have : ch.length < 3 := by have := of_decide_eq_true hb7; omega
                           rw [kC, decide_eq_true h5, h6, hch, decide_eq_true this]; rfl
                         have ho : outerOf ws = item ws 3 := if_pos h4
                         generalize item ws 3 = o at ho ⊢)))
            | (rw [decide_eq_false (fun z => h4 (by have := V.int.inj z; omega))]
               refine iteF ?_
               have hC : kindC S ws = true := by unfold kindC; rw [decide_eq_false h4]; rfl
               have ho : outerOf ws = "" := if_neg h4
               generalize (Str.ofString "") = o at ho ⊢)
          all_goals
            rw [if_pos (by rw [hA, hB, hC]; rfl)] at kk
            refine ⟨_, rfl, r, C, dx2, _, _, rfl, ob2, T.cl, T.at_, rfl, _, _, rfl, rfl, dx2, _, ob2, (by show 10 < 1000; decide), ?_⟩
            generalize hH4 : upd H2 r _ = H4
            have R4 : RdAt C H4 r A S.on := by rw [← hH4]; exact R2.goTo (dx := dx2) (S.pos + 1)
            have b4 : But (A.own r) H H4 := by rw [← hH4]; exact (But.of s12).trans (.upd (by simp [Adr.own]))
            obtain ⟨dx4, ob4⟩ := R4.ob
            have f4 := (Adv.step S1 hpos).fine S1
            refine ⟨_, rfl, r, dx4, _, rfl, ob4, noMeth (by decide +kernel), r, A, S.on, rfl, R4, f4, ?_⟩
            cases hm : fieldsM (S.on.ls.length - S.on.pos + 1) S.on [] with
            | bad n =>
              rw [hm] at kk
              exact Bad.before kk b4
            | ok x =>
              obtain ⟨S5, fs⟩ := x
              rw [hm] at kk
              have kk : ∀ (H' : Hp), But (A.own r) H H' → RdAt C H' r A (kindEnd ws S5 fs) → Fine (kindEnd ws S5 fs) → S.pos < (kindEnd ws S5 fs).pos → (kindEnd ws S5 fs).ls = S.ls → Q .non H' := kk
              intro D H5 b5 R5 v5 hfs nD5 hD5
              have f5 := v5.fine f4
              have v05 : Adv S S5 := (Adv.step S1 hpos).trans v5
              have ek : S5.kinds = S.kinds := by rw [v05.eq]
              have ec : S5.chains = S.chains := by rw [v05.eq]
              have ef : S5.fields = S.fields := by rw [v05.eq]
              obtain ⟨dx5, ob5⟩ := R5.ob
              obtain ⟨kv5, k51, k52⟩ := R5.kl
              have lk5 := k52.length
              refine ⟨_, rfl, r, C, dx5, _, _, rfl, ob5, T.cl, T.kinds, rfl, .inl ⟨rfl, _, SqL.of k51⟩, _, rfl, _, rfl, _, rfl, D, _, rfl, .inl ⟨SqL.of hD5, fun f nf => ⟨(by show 3 ≤ sizeLine; decide), fun t' nt' => ?_⟩⟩⟩
              have sf := Same.new (o := .tup (wlist fs)) nf
              have hf1 : upd H5 f (.tup (wlist fs)) f = some (.tup (wlist fs)) := upd_same
              generalize hH6 : upd (upd H5 f _) t' _ = H6
              have s6 : Same H5 H6 := by rw [← hH6]; exact sf.trans (Same.new nt')
              have ht6 : H6 t' = some (.tup [.str (item ws 1), .str o, .ref f]) := by rw [← hH6]; exact upd_same
              have hf6 : H6 f = some (.tup (wlist fs)) := by rw [← hH6, upd_ne (ne_of_none hf1 nt')]; exact hf1
              have R6 := R5.same s6
              have ft := RdAt.trackedA R5 f nf
              have tt := RdAt.trackedA (R5.same sf) t' nt'
              have R7 := R6.addKind (s6 _ _ k51) (v := .ref t') (k := (item ws 1, o, fs)) ⟨t', f, rfl, ⟨ht6, tt⟩, ⟨hf6, ft⟩⟩
              refine ⟨A.kl, kv5, _, rfl, rfl, s6 _ _ k51, ?_, ?_⟩
              · have := le_line (n := 20002) (by omega)
                rw [lk5, ek]
                omega
              generalize hH7 : upd H6 A.kl _ = H7
              have R7 : RdAt C H7 r A { S5 with kinds := S5.kinds ++ [(item ws 1, o, fs)] } := by rw [← hH7]; exact R7
              have b7 : But (A.own r) H5 H7 := by rw [← hH7]; exact (But.of s6).trans (.upd (by simp [Adr.own]))
              have nDo : D ∉ A.own r := fun z => RdAt.tracked R4 D z nD5
              have hD7 : H7 D = some (.lst (wlist fs)) := b7.keep _ _ hD5 nDo
              obtain ⟨dx7, ob7⟩ := R7.ob
              obtain ⟨cv7, c71, c72⟩ := R7.cd
              have c72 : Paired (ChAt H7 (A.all r)) cv7 S5.chains := c72
              have b07 : But (A.own r) H H7 := (b4.trans b5).trans b7
              have hvn : valV cv7 (.inr (item ws 1) : Key) = none := (ch_get c72).2 (by rw [ec]; exact hl)
              refine ⟨_, rfl, r, C, dx7, _, _, rfl, ob7, T.cl, T.chains, rfl, A.cd, rfl, .inl ⟨_, .inl c71⟩, _, rfl, (by show 0 ≤ sizeLine; decide), fun u nu => ?_⟩
              have su := Same.new (o := .tup []) nu
              have hu1 : upd H7 u (.tup []) u = some (.tup []) := upd_same
              generalize hH8 : upd H7 u _ = H8 at hu1 su ⊢
              have R8 := R7.same su
              refine ⟨_, DGet.k (k := Sum.inr o) (su _ _ c71), _, rfl, (by show 1 ≤ sizeLine; decide), fun v nv => ?_⟩
              have sv := Same.new (o := .tup [V.str (item ws 1)]) nv
              have hv1 : upd H8 v (.tup [V.str (item ws 1)]) v = some (.tup [V.str (item ws 1)]) := upd_same
              have nvn : v ∉ A.all r := RdAt.trackedA R8 v nv
              generalize hH9 : upd H8 v _ = H9 at hv1 sv ⊢
              have s79 : Same H7 H9 := su.trans sv
              have R9 := R8.same sv
              obtain ⟨a9, ea, ha9⟩ : ∃ a, (valV cv7 (.inr o : Key)).getD (.ref u) = .ref a ∧ H9 a = some (.tup (wlist (chainOf S5 o))) := by
                cases e : S5.chains.lookup o with
                | none =>
                  rw [(ch_get c72).2 e]
                  exact ⟨u, rfl, by unfold chainOf; rw [e]; exact sv _ _ hu1⟩
                | some c =>
                  obtain ⟨ta, z1, z2⟩ := (ch_get c72).1 c e
                  rw [z1]
                  exact ⟨ta, rfl, by unfold chainOf; rw [e]; exact s79 _ _ z2.1⟩
              have lc : (chainOf S5 o).length ≤ 3 := by
                unfold chainOf
                cases e : S5.chains.lookup o with
                | none => simp
                | some c => exact (f5.cf _ (look_in e)).1
              rw [ea]
              -- the chain and the name
              have fin : ∀ (z : Addr) (H10 : Hp), Same H7 H10 → H10 z = some (.tup (wlist (chainOf S5 o ++ [item ws 1]))) → z ∉ A.all r → ∃ (H11 : Hp), H11 = upd H10 A.cd (.dK (cv7 ++ [(Sum.inr (item ws 1), .ref z)])) ∧ DPut H10 A.cd (.str (item ws 1)) (.ref z) H11 ∧ RdAt C H11 r A { S5 with kinds := S5.kinds ++ [(item ws 1, o, fs)], chains := S5.chains ++ [(item ws 1, chainOf S5 o ++ [item ws 1])] } ∧ But (A.own r) H7 H11 ∧ H11 D = some (.lst (wlist fs)) ∧ ∃ dx, H10 r = some (.ins C dx (A.flds S5.pos)) := fun z H10 s10 hz nz => by
                have c10 := s10 _ _ c71
                refine ⟨_, rfl, ?_, ?_, (But.of s10).trans (.upd (by simp [Adr.own])), ?_, (R7.same s10).ob⟩
                · have := DPut.k (k := (Sum.inr (item ws 1) : Key)) (v := .ref z) c10 (by
                    have := le_line (n := 20002) (by omega)
                    have := c72.length
                    rw [this, ec, S1.c]
                    omega)
                  rw [putK_new _ hvn] at this
                  exact this
                · exact (R7.same s10).addChain c10 (v := (Sum.inr (item ws 1), .ref z)) (k := (item ws 1, chainOf S5 o ++ [item ws 1])) ⟨rfl, z, rfl, hz, nz⟩
                · rw [upd_ne (fun e => nDo (by rw [e]; simp [Adr.own]))]
                  exact s10 _ _ hD7
              have endit : ∀ (H11 : Hp), RdAt C H11 r A { S5 with kinds := S5.kinds ++ [(item ws 1, o, fs)], chains := S5.chains ++ [(item ws 1, chainOf S5 o ++ [item ws 1])] } → But (A.own r) H7 H11 → H11 D = some (.lst (wlist fs)) →
                  ∀ (l : Addr), H11 l = none → ∀ (p : Addr), (upd H11 l (.lst [V.str "key"])) p = none → ∃ (fv : List (Key × V)) (H12 : Hp), (upd (upd H11 l (.lst [V.str "key"])) p (.lst ([V.str "key"] ++ wlist fs))) A.fd = some (.dK fv) ∧ DPut (upd (upd H11 l (.lst [V.str "key"])) p (.lst ([V.str "key"] ++ wlist fs))) A.fd (.str (item ws 1)) (.ref p) H12 ∧ Q .non H12 := fun H11 R11 b11 hD11 l nl p np => by
                have s12' := (Same.new (o := .lst [V.str "key"]) nl).trans (Same.new (o := .lst ([V.str "key"] ++ wlist fs)) np)
                have R12 := R11.same s12'
                obtain ⟨fv, f121, f122⟩ := R12.fd
                have f122 : Paired (FdAt _ (A.all r)) fv S5.fields := f122
                have hfn : valV fv (.inr (item ws 1) : Key) = none := (fd_get f122).2 (by
                  rw [ef]
                  refine look_mem.mpr ?_
                  rw [S1.ck]
                  exact look_mem.mp hl)
                have pn : p ∉ A.all r := RdAt.trackedA (R11.same (Same.new (o := .lst [V.str "key"]) nl)) p np
                have dp := DPut.k (k := (Sum.inr (item ws 1) : Key)) (v := .ref p) f121 (by
                  have := le_line (n := 20002) (by omega)
                  have := f122.length
                  rw [this, ef, S1.f]
                  omega)
                rw [putK_new _ hfn] at dp
                refine ⟨fv, _, f121, dp, ?_⟩
                have ho5 : kindEnd ws S5 fs = { S5 with kinds := S5.kinds ++ [(item ws 1, o, fs)], chains := S5.chains ++ [(item ws 1, chainOf S5 o ++ [item ws 1])], fields := S5.fields ++ [(item ws 1, ("key" : Str) :: fs)] } := by unfold kindEnd; rw [ho]
                refine kk _ (((b07.trans b11).trans (.of s12')).trans (.upd (by simp [Adr.own]))) ?_ ?_ ?_ ?_
                · rw [ho5]
                  exact R12.addField f121 (v := (Sum.inr (item ws 1), .ref p)) (k := (item ws 1, ("key" : Str) :: fs)) ⟨rfl, p, rfl, upd_same, pn⟩
                · refine kind_fine f5 (by rw [ek]; exact h1) ?_ ?_ hfs
                  · unfold kindB at hB ⊢
                    rw [ec]
                    exact hB
                  · unfold kindC chainOf at hC ⊢
                    rw [ec]
                    exact hC
                · show S.pos < S5.pos
                  have := v5.le
                  have e : S.on.pos = S.pos + 1 := rfl
                  omega
                · show S5.ls = S.ls
                  rw [v05.eq]
              refine ⟨a9, v, _, _, rfl, rfl, SqT.of ha9, SqT.of hv1, ?_, fun hx => ?_, (fun hx hy => by cases hy), fun hx hy p np => ?_⟩
              · have := le_line (n := 20002) (by omega)
                rw [List.length_map]
                show (chainOf S5 o).length + 1 ≤ sizeLine
                omega
              all_goals first
                | (have hx : chainOf S5 o = [] := by
                     cases e : chainOf S5 o with
                     | nil => rfl
                     | cons _ _ => rw [e] at hx; cases hx
                   obtain ⟨H11, e11, dp, R11, b11, hD11, dx10, ob10⟩ := fin v H9 s79 (by rw [hx]; exact hv1) nvn)
                | (obtain ⟨H11, e11, dp, R11, b11, hD11, dx10, ob10⟩ := fin p (upd H9 p (.tup (wlist (chainOf S5 o) ++ [V.str (item ws 1)]))) (s79.trans (Same.new np)) (by rw [upd_same]; simp [wlist]) (RdAt.trackedA R9 p np))
              all_goals
                obtain ⟨dx11, ob11⟩ := R11.ob
                refine ⟨_, rfl, r, C, dx10, _, _, rfl, ob10, T.cl, T.chains, rfl, _, rfl, A.cd, H11, rfl, dp, ?_⟩
                refine ⟨(by show 1 ≤ sizeLine; decide), fun l nl => ?_⟩
                have sl := Same.new (o := .lst [V.str "key"]) nl
                refine ⟨_, rfl, l, D, _, _, rfl, rfl, upd_same, sl _ _ hD11, ?_, fun p' np' => ?_⟩
                · have := le_line (n := 20002) (by omega)
                  rw [List.length_map]
                  show 1 + fs.length ≤ sizeLine
                  omega
                obtain ⟨fv, H12, g1, g2, g3⟩ := endit H11 R11 b11 hD11 l nl p' np'
                exact ⟨_, rfl, r, C, dx11, _, _, rfl, (sl.trans (Same.new np')) _ _ ob11, T.cl, T.fields, rfl, _, rfl, A.fd, H12, rfl, g2, g3⟩
        · have hl : (S.chains.lookup (item ws 1)).isNone = false := by
            cases e : S.chains.lookup (item ws 1) with
            | none =>
              rw [(ch_get c2).2 e] at hb2
              cases hb2
            | some c => rfl
          unfold kindB
          rw [hl]
          simp
      · have h3 : word (item ws 1) = false := by simpa using h3
        exact ⟨r, A, S, false, rfl, R2, fun hb => Bool.noConfusion hb, fun _ => (bad (by unfold kindB; rw [h3]; simp)).before (.of s12)⟩
    · have h1 : ¬ S.kinds.length < 4 := fun z => h1 (decide_eq_true (by omega))
      exact ⟨r, A, S, false, rfl, R, fun hb => Bool.noConfusion hb, fun _ => bad (by unfold kindA; rw [decide_eq_false h1]; rfl)⟩
end
end K7
/-! part C8 -/
set_option Elab.async false
set_option linter.all false
set_option maxRecDepth 100000
namespace Rdr
open PySem L2
def cellA (S : Rd) (ws : List Str) : Bool := decide (S.cells.length < 2) && decide (ws.length = 3)
def cellB (S : Rd) (ws : List Str) : Bool := word (item ws 1) && (!S.cells.contains (item ws 1) && (decide (item ws 2 = "2") || decide (item ws 2 = "3")))
def cellEnd (S : Rd) (ws : List Str) : Rd := { S with cells := S.cells ++ [item ws 1], worths := S.worths ++ [if item ws 2 = "2" then 2 else 3], pos := S.pos + 1 }
theorem cellM_eq {S : Rd} {ws : List Str} : cellM S ws = if (cellA S ws && cellB S ws) = true then .ok (cellEnd S ws) else .bad ((S.pos : Int) + 1) := by
  unfold cellM cellA cellB
  rw [need_need, need_eq]
  simp only [Bool.and_assoc]
  rfl
end Rdr
namespace K7
open PySem L2 Rdr LcX
abbrev sCell : Stmt := inClass (top 21) 6
/-- cells and lines apart, all as it was -/
structure AdvC (S S' : Rd) : Prop where
  eq : S' = { S with pos := S'.pos, cells := S'.cells, worths := S'.worths }
  le : S.pos ≤ S'.pos
theorem AdvC.refl {S : Rd} : AdvC S S := ⟨rfl, Nat.le_refl _⟩
theorem AdvC.trans {S S1 S2 : Rd} (a : AdvC S S1) (b : AdvC S1 S2) : AdvC S S2 := ⟨by
  have h1 := b.eq
  rw [a.eq] at h1
  exact h1, Nat.le_trans a.le b.le⟩
def spCell (C cB : Addr) : Sp := fun vs H Q E => ∃ (r wa : Addr) (A : Adr) (S : Rd) (ws : List Str), vs = [.ref r, .ref wa] ∧ RdAt C H r A S ∧ Fine S ∧ Words H wa ws ∧ wa ∉ A.own r ∧ S.pos < S.ls.length ∧ 0 < ws.length ∧ match cellM S ws with
  | .ok S' => ∀ (H' : Hp), But (A.own r) H H' → RdAt C H' r A S' → Fine S' → S'.pos = S.pos + 1 → AdvC S S' → Q .non H'
  | .bad n => Bad cB E (A.own r) H n
structure RW (K : PySem.W.Frag) (mg : Str → Option Value) (aW : Addr) : Prop where
  mg_ : mg "WORTHS" = some (.ref aW)
  at_ : ∀ H : Hp, SqT K H aW [.str "2", .str "3"]
section
variable {P : Program} {w : World} {K : PySem.W.Frag} {mg : Str → Option Value} {base : Heap} {C cB fB : Addr} {fdB : FuncData}
theorem sc_cell : FnScope ["self", "words"] ["self", "words"] (defScope sCell) := ⟨rfl, rfl, rfl, by decide +kernel, rfl, by decide +kernel, by decide +kernel⟩
theorem ok_cell {f aW : Addr} {fd : FuncData} (F : Fun K "read_cell" "ProgramReader.read_cell" sCell f fd) (T : RT K mg C cB fB fdB) (TC : RC mg) (TW : RW K mg aW) (Gn : MOk P w K mg base 3 C "need" (spNeed C cB)) (Gw : DOk P w K mg base 1 "is_word" spWord) :
    FnOk P w K mg base (L2.CX P w) 4 f fd ["self", "words"] (spCell C cB) := by
  obtain ⟨tC, cC⟩ := TC.MOST_CELLS
  refine F.okX sc_cell (fun vs H Q E h => ?_) (fun cdv A outer s H vs Q E hr h => ?_)
  · obtain ⟨r, wa, A, S, ws, rfl, _⟩ := h
    rfl
  · obtain ⟨r, wa, A, S, ws, rfl, R, S1, W, hwa, hpos, h0, kk⟩ := h
    have hr3 : Room 3 _ := hr
    have hr1 : Room 1 _ := hr.mono (by decide)
    refine ⟨_, pss_cons (ps_expr (m_meth (pv 0) T.cl Gn hr3 (passes_call (takes_of rfl rfl rfl rfl) (fun _ _ _ _ z => z)) (pa_cons (pe_and (pe_cmpR op_lt (pe_callB call_len_seq (by rfl) T.len PySem.boot_len (pa_cons (pe_fld (pv 0) rfl) pa_nil)) (pe_glob (v := .int 2) rfl cC ⟨_, rfl⟩) (nomark _))
          (pe_one (pe_cmpR op_eq (pe_callB call_len_seq (by rfl) T.len PySem.boot_len (pa_cons (pv 1) pa_nil)) pe_int (nomark _)))) pa_nil)))
      (pss_cons (ps_expr (m_meth (pv 0) T.cl Gn hr3 (passes_call (takes_of rfl rfl rfl rfl) (fun _ _ _ _ z => z)) (pa_cons (pe_and (f_call Gw hr1 passL (pa_cons (pe_ix ix_list (pv 1) pe_int (fun _ _ => rfl)) pa_nil))
          (pe_and (pe_cmpR op_notIn_seq (pe_ix ix_list (pv 1) pe_int (fun _ _ => rfl)) (pe_fld (pv 0) rfl) (by rfl)) (pe_one (pe_cmpR op_in_seq (pe_ix ix_list (pv 1) pe_int (fun _ _ => rfl)) (pe_glob (v := .ref aW) rfl TW.mg_ rfl) (by rfl))))) pa_nil)))
      (pss_cons (ps_expr (pe_bm PySem.F.plainAttrs_list PySem.F.slot_list_append PySem.F.type_list_append mt_append (pe_fld (pv 0) rfl) (pa_cons (pe_ix ix_list (pv 1) pe_int (fun _ _ => rfl)) pa_nil)))
      (pss_cons (ps_expr (pe_bm PySem.F.plainAttrs_list PySem.F.slot_list_append PySem.F.type_list_append mt_append (pe_fld (pv 0) rfl) (pa_cons (pe_callTy call_int_str (by rfl) T.int (by decide +kernel) (pa_cons (pe_ix ix_list (pv 1) pe_int (fun _ _ => rfl)) pa_nil)) pa_nil)))
      (pss_one (ps_fldaug (pv 0) pe_int in_add))))), ?_⟩
    obtain ⟨dx, ob⟩ := R.ob
    rw [cellM_eq] at kk
    have bad : (cellA S ws && cellB S ws) = false → Bad cB E (A.own r) H ((S.pos : Int) + 1) := fun hb => by
      rw [if_neg (by rw [hb]; simp)] at kk
      exact kk
    have lws : (wlist ws).length = ws.length := by simp
    have lcs : (wlist S.cells).length = S.cells.length := by simp
    refine ⟨_, rfl, r, dx, _, rfl, ob, noMeth (by decide +kernel), _, rfl, r, C, dx, _, _, rfl, ob, T.cl, T.cells, rfl, A.cl, _, rfl, .inl (SqL.of R.cl), _, _, rfl, rfl, _, rfl, ?_⟩
    rw [lcs]
    refine ite2 (fun h1 => ?_) (fun h1 => ?_)
    · have h1 : S.cells.length < 2 := by have := of_decide_eq_true h1; omega
      refine ⟨_, rfl, wa, _, rfl, .inl (SqL.of W.at_), rfl, r, A, S, _, rfl, R, fun hb => ?_, fun hb => bad ?_⟩
      · have h3 : ws.length = 3 := by have := V.int.inj (of_decide_eq_true hb); omega
        have hA : cellA S ws = true := by unfold cellA; rw [decide_eq_true h1, decide_eq_true h3]; rfl
        refine ⟨_, rfl, r, dx, _, rfl, ob, noMeth (by decide +kernel), _, rfl, wa, _, _, _, rfl, rfl, SqL.of W.at_, at_item (i := 1) (by omega), _, rfl, okw_le (W.ok _ (item_mem (by omega))), fun H1 s1 => ⟨_, rfl, ?_⟩⟩
        have R1 := R.same s1
        obtain ⟨dx1, ob1⟩ := R1.ob
        have w1 := s1 _ _ W.at_
        refine ite2 (fun h4 => ?_) (fun h4 => ?_)
        · refine ⟨_, rfl, wa, _, _, _, rfl, rfl, SqL.of w1, at_item (i := 1) (by omega), _, rfl, r, C, dx1, _, _, rfl, ob1, T.cl, T.cells, rfl, _, _, rfl, .inl (SqL.of R1.cl), rfl, flat_wlist, _, rfl, ?_⟩
          have e1 : (if true = true then !inV (V.str (item ws 1)) (wlist S.cells) else inV (V.str (item ws 1)) (wlist S.cells)) = !S.cells.contains (item ws 1) := by rw [if_pos rfl, in_wlist]
          rw [e1]
          refine ite2 (fun h5 => ?_) (fun h5 => ?_)
          · have e2 : (if false = true then !inV (V.str (item ws 2)) [V.str "2", V.str "3"] else inV (V.str (item ws 2)) [V.str "2", V.str "3"]) = (decide (item ws 2 = "2") || decide (item ws 2 = "3")) := by
              have := in_wlist (x := item ws 2) (ws := ["2", "3"])
              rw [if_neg (by simp)]
              refine this.trans ?_
              simp only [List.contains_cons, List.contains_nil, Bool.or_false]
              rfl
            refine ⟨_, rfl, wa, _, _, _, rfl, rfl, SqL.of w1, at_item (i := 2) (by omega), aW, _, rfl, .inr (TW.at_ _), rfl, rfl, ?_⟩
            rw [e2]
            refine ⟨r, A, S, _, rfl, R1, fun hb6 => ?_, fun hb6 => (bad (by unfold cellB; rw [hb6]; simp)).before (.of s1)⟩
            have hB : cellB S ws = true := by unfold cellB; rw [h4, h5, hb6]; rfl
            rw [if_pos (by rw [hA, hB]; rfl)] at kk
            have len2 : (wlist S.cells).length < sizeLine := by
              have := le_line (n := 20002) (by omega)
              omega
            refine ⟨_, rfl, r, C, dx1, _, _, rfl, ob1, T.cl, T.cells, rfl, .inl ⟨rfl, _, SqL.of R1.cl⟩, _, rfl, wa, _, _, _, rfl, rfl, SqL.of w1, at_item (i := 1) (by omega), A.cl, _, _, rfl, rfl, R1.cl, len2, ?_⟩
            have R2 := R1.addCell (item ws 1)
            generalize hH2 : upd H1 A.cl _ = H2
            have R2 : RdAt C H2 r A { S with cells := S.cells ++ [item ws 1] } := by rw [← hH2]; exact R2
            have b2 : But (A.own r) H1 H2 := by rw [← hH2]; exact .upd (by simp [Adr.own])
            obtain ⟨dx2, ob2⟩ := R2.ob
            have w2 := b2.keep _ _ w1 hwa
            obtain ⟨z, hz, hzl, hzv⟩ : ∃ z, PySem.intText? (item ws 2) = some z ∧ (item ws 2).length ≤ 640 ∧ z = (if item ws 2 = "2" then 2 else 3) := by
              rcases Bool.or_eq_true_iff.mp hb6 with y | y
              · have y := of_decide_eq_true y
                rw [y]
                exact ⟨2, by decide +kernel, by decide, by decide⟩
              · have y := of_decide_eq_true y
                rw [y]
                exact ⟨3, by decide +kernel, by decide, by decide⟩
            have len3 : (ilist S.worths).length < sizeLine := by
              have := le_line (n := 20002) (by omega)
              have := S1.w.1
              rw [List.length_map]
              omega
            refine ⟨_, rfl, r, C, dx2, _, _, rfl, ob2, T.cl, T.worths, rfl, .inl ⟨rfl, _, SqL.of R2.wl⟩, _, rfl, wa, _, _, _, rfl, rfl, SqL.of w2, at_item (i := 2) (by omega), _, z, rfl, hz, hzl, A.wl, _, _, rfl, rfl, R2.wl, len3, ?_⟩
            have R3 := R2.addWorth z
            generalize hH3 : upd H2 A.wl _ = H3
            have R3 : RdAt C H3 r A { S with cells := S.cells ++ [item ws 1], worths := S.worths ++ [z] } := by rw [← hH3]; exact R3
            have b3 : But (A.own r) H2 H3 := by rw [← hH3]; exact .upd (by simp [Adr.own])
            obtain ⟨dx3, ob3⟩ := R3.ob
            refine ⟨_, rfl, r, C, dx3, _, _, rfl, ob3, T.cl, T.at_, rfl, _, _, rfl, rfl, dx3, _, ob3, (by show 10 < 1000; decide), ?_⟩
            have es : cellEnd S ws = { S with cells := S.cells ++ [item ws 1], worths := S.worths ++ [z], pos := S.pos + 1 } := by unfold cellEnd; rw [hzv]
            refine kk _ ((((But.of s1).trans b2).trans b3).trans (.upd (by simp [Adr.own]))) (by rw [es]; exact R3.goTo (dx := dx3) (S.pos + 1)) ?_ rfl ⟨rfl, Nat.le_succ _⟩
            rw [es]
            have hw := S1.w
            exact ⟨hpos, S1.n, S1.ws, S1.k, S1.c, S1.f, S1.cf, S1.ff, S1.nf, Nat.le_succ_of_le S1.l, ⟨by simp [hw.1], by simp; omega, fun x hx => by
              rcases List.mem_append.mp hx with hx | hx
              · exact hw.2.2 x hx
              · have hx : x = z := by simpa using hx
                rw [hx, hzv]
                by_cases e : item ws 2 = "2"
                · exact .inl (if_pos e)
                · exact .inr (if_neg e)⟩, S1.q, S1.ck, S1.kw, S1.kn⟩
          · exact ⟨r, A, S, false, rfl, R1, fun hb => Bool.noConfusion hb, fun _ => (bad (by unfold cellB; rw [show (!S.cells.contains (item ws 1)) = false by simpa using h5]; simp)).before (.of s1)⟩
        · have h4 : word (item ws 1) = false := by simpa using h4
          exact ⟨r, A, S, false, rfl, R1, fun hb => Bool.noConfusion hb, fun _ => (bad (by unfold cellB; rw [h4]; simp)).before (.of s1)⟩
      · have h3 : ¬ ws.length = 3 := fun z => by
          have := of_decide_eq_false hb
          exact this (by rw [lws, z]; rfl)
        unfold cellA
        rw [decide_eq_false h3]
        simp
    · have h1 : ¬ S.cells.length < 2 := fun z => h1 (decide_eq_true (by omega))
      exact ⟨r, A, S, false, rfl, R, fun hb => Bool.noConfusion hb, fun _ => bad (by unfold cellA; rw [decide_eq_false h1]; rfl)⟩
end
end K7
/-! part C9 -/
set_option Elab.async false
set_option linter.all false
set_option maxRecDepth 100000
namespace K7
open PySem L2 Rdr LcX
abbrev sPlaces : Stmt := inClass (top 21) 5
abbrev sPartInit : Stmt := inClass (top 20) 0
def PlAt (H : Hp) (M : List Addr) (v : V) (p : Str × Str) : Prop := ∃ t, v = .ref t ∧ Fix H M t (.tup [.str p.1, .str p.2])
theorem PlAt.carry {H H' : Hp} {M N : List Addr} (c : Carry H H' M N) {v : V} {p : Str × Str} (h : PlAt H M v p) : PlAt H' N v p := by
  obtain ⟨t, e, f⟩ := h
  exact ⟨t, e, c.fx _ _ f⟩
theorem Pr.app {α β : Type} {F : α → β → Prop} : ∀ {xs xs' : List α} {ys ys' : List β}, Paired F xs ys → Paired F xs' ys' → Paired F (xs ++ xs') (ys ++ ys')
  | _, _, _, _, .nil, h => h
  | _, _, _, _, .cons g t, h => .cons g (Pr.app t h)
def spPlaces (C : Addr) : Sp := fun vs H Q _ => ∃ (r : Addr) (A : Adr) (S : Rd), vs = [.ref r] ∧ RdAt C H r A S ∧ Fine S ∧
  ∀ (D : Addr) (ps : List V) (H' : Hp), Same H H' → H D = none → H' D = some (.lst ps) → Paired (PlAt H' (A.all r)) ps (places S) → Q (.ref D) H'
def spPartInit (cP : Addr) : Sp := fun vs H Q _ => ∃ (p dx : Addr) (a b : V), vs = [.ref p, a, b] ∧ H p = some (.ins cP dx []) ∧ ∀ H', But [p] H H' → Q .non H'
structure RP (K : PySem.W.Frag) (cP : Addr) : Prop where
  cl : Cls K cP
  worths : NoAttr K cP "worths"
  blocks : NoAttr K cP "blocks"
section
variable {P : Program} {w : World} {K : PySem.W.Frag} {mg : Str → Option Value} {base : Heap} {C cB fB : Addr} {fdB : FuncData}
theorem sc_partInit : FnScope ["self", "worths", "blocks"] ["self", "worths", "blocks"] (defScope sPartInit) := ⟨rfl, rfl, rfl, by decide +kernel, rfl, by decide +kernel, by decide +kernel⟩
theorem ok_partInit {f cP : Addr} {fd : FuncData} (F : Fun K "__init__" "Part.__init__" sPartInit f fd) (T : RP K cP) : FnOk P w K mg base (L2.CX P w) 1 f fd ["self", "worths", "blocks"] (spPartInit cP) := by
  refine F.okX sc_partInit (fun vs H Q E h => ?_) (fun cdv A outer s H vs Q E hr h => ?_)
  · obtain ⟨p, dx, a, b, rfl, _⟩ := h
    rfl
  · obtain ⟨p, dx, a, b, rfl, hp, k⟩ := h
    refine ⟨_, pss_cons (ps_fld (pv 0) (pv 1) rfl) (pss_one (ps_fld (pv 0) (pv 2) rfl)), ?_⟩
    refine ⟨_, rfl, _, rfl, p, cP, dx, [], rfl, hp, T.cl, T.worths, (by show 0 < 1000; decide), _, rfl, _, rfl, p, cP, dx, _, rfl, upd_same, T.cl, T.blocks, (by show 1 < 1000; decide), ?_⟩
    refine k _ ⟨fun x o hx hn => ?_, fun x hx => ?_⟩
    · have : x ≠ p := by simpa using hn
      rw [upd_ne this, upd_ne this]
      exact hx
    · exact upd_none (upd_none hx)
theorem sc_places : FnScope ["self", "places", "name", "_"] ["self"] (defScope sPlaces) := ⟨rfl, rfl, rfl, by decide +kernel, rfl, by decide +kernel, by decide +kernel⟩
theorem ok_places {f : Addr} {fd : FuncData} (F : Fun K "places" "ProgramReader.places" sPlaces f fd) (T : RT K mg C cB fB fdB) : FnOk P w K mg base (L2.CX P w) 1 f fd ["self"] (spPlaces C) := by
  refine F.okX sc_places (fun vs H Q E h => ?_) (fun cdv A outer s H vs Q E hr h => ?_)
  · obtain ⟨r, A, S, rfl, _⟩ := h
    rfl
  · obtain ⟨r, A, S, rfl, R, S1, k⟩ := h
    refine ⟨_, pss_cons (ps_set (i := 1) sc_places.nd rfl (Or.inl rfl) (pe_lst (pa_cons (pe_tup (pa_cons pe_str (pa_cons pe_str pa_nil))) pa_nil)))
      (pss_cons (ps_for (passes_of rfl) rfl (pi_list (pe_fld (pv 0) rfl)) (pg_tup rfl (pgs_cons (pg_name (i := 2) sc_places.nd rfl (Or.inl rfl)) (pgs_cons (pg_name (i := 3) sc_places.nd rfl (Or.inl rfl)) (pgs_cons (pg_name (i := 3) sc_places.nd rfl (Or.inl rfl)) pgs_nil))))
        (pss_one (ps_expr (pe_bm PySem.F.plainAttrs_list PySem.F.slot_list_extend PySem.F.type_list_extend mt_extend (pv 1) (pa_cons (pe_lst (pa_cons (pe_tup (pa_cons pe_str (pa_cons (pv 2) pa_nil))) (pa_cons (pe_tup (pa_cons pe_str (pa_cons (pv 2) pa_nil))) pa_nil))) pa_nil)))))
      (pss_one (ps_ret (pe_op op_cat (pv 1) (pe_lst (pa_cons (pe_tup (pa_cons pe_str (pa_cons pe_str pa_nil))) pa_nil)))))), ?_⟩
    refine ⟨(by show 2 ≤ sizeLine; decide), fun t0 nt0 => ⟨(by show 1 ≤ sizeLine; decide), fun D nD => ?_⟩⟩
    have st0 := Same.new (o := .tup [V.str "begin", V.str ""]) nt0
    have ht0 : upd H t0 (.tup [V.str "begin", V.str ""]) t0 = some (.tup [V.str "begin", V.str ""]) := upd_same
    generalize hH1 : upd (upd H t0 _) D _ = H1
    have s1 : Same H H1 := by rw [← hH1]; exact st0.trans (Same.new nD)
    have hD1 : H1 D = some (.lst [.ref t0]) := by rw [← hH1]; exact upd_same
    have ht1 : H1 t0 = some (.tup [V.str "begin", V.str ""]) := by rw [← hH1, upd_ne (ne_of_none ht0 nD)]; exact ht0
    have nDa : D ∉ A.all r := RdAt.trackedA (R.same st0) D nD
    have nta : t0 ∉ A.all r := RdAt.trackedA R t0 nt0
    have tD : t0 ≠ D := ne_of_none ht0 nD
    have R1 := R.same s1
    obtain ⟨dx, ob⟩ := R1.ob
    obtain ⟨kv, k1, k2⟩ := R1.kl
    have nDk : ∀ q ∈ A.all r, q ≠ D := fun q hq z => nDa (z ▸ hq)
    have lk := k2.length
    have lk4 := S1.k
    -- behind i kinds: the places so far; all that was there but D stands
    refine ⟨_, rfl, r, C, dx, _, _, rfl, ob, T.cl, T.kinds, rfl, A.kl, rfl, ⟨_, SqL.of k1⟩, for_list (K := K) (a := A.kl) (xs := kv) (fun i σ H' => ∃ (v2 v3 : Option V) (ps : List V), σ = [some (.ref r), some (.ref D), v2, v3] ∧ But [D] H1 H' ∧ H' D = some (.lst ps) ∧ ps.length ≤ 1 + 2 * i ∧
        Paired (PlAt H' (D :: A.all r)) ps ([(("begin" : Str), ("" : Str))] ++ (S.kinds.take i).flatMap (fun k => [(("open" : Str), k.1), (("close" : Str), k.1)])))
      ⟨none, none, [.ref t0], rfl, .refl, hD1, by simp, .cons ⟨t0, rfl, ht1, by simp [tD, nta]⟩ .nil⟩ (fun i σ H' _ ⟨_, _, _, _, b, _⟩ => SqL.of (b.keep _ _ k1 (by simp; exact nDk _ (by simp [Adr.all, Adr.own])))) ?_ ?_⟩
    · rintro i y σ H2 hi ⟨v2, v3, ps, rfl, b2, hD2, lp, pr⟩
      have hil : i < kv.length := (List.getElem?_eq_some_iff.mp hi).1
      obtain ⟨kd, hkd⟩ : ∃ kd, S.kinds[i]? = some kd := ⟨_, List.getElem?_eq_getElem (by omega)⟩
      obtain ⟨y', hy', t, f, ey, ft, ff⟩ := Pr.at k2 hkd
      rw [hi] at hy'
      cases hy'
      subst ey
      have hti := b2.keep _ _ ft.1 (by simpa using ne_of ft.1 hD1 (by intro z; cases z))
      refine ⟨t, _, rfl, SqT.of hti, rfl, _, _, rfl, _, _, rfl, _, _, rfl, rfl, ?_⟩
      refine ⟨_, rfl, .inl ⟨rfl, _, SqL.of hD2⟩, _, rfl, (by show 2 ≤ sizeLine; decide), fun a na => ⟨_, rfl, (by show 2 ≤ sizeLine; decide), fun b nb => ⟨(by show 2 ≤ sizeLine; decide), fun l nl => ?_⟩⟩⟩
      have sa := Same.new (o := .tup [V.str "open", V.str kd.1]) na
      have sb := Same.new (o := .tup [V.str "close", V.str kd.1]) nb
      have sl := Same.new (o := .lst [V.ref a, V.ref b]) nl
      have s3 := (sa.trans sb).trans sl
      have ha : upd H2 a (.tup [V.str "open", V.str kd.1]) a = some (.tup [V.str "open", V.str kd.1]) := upd_same
      have hb : upd (upd H2 a (.tup [V.str "open", V.str kd.1])) b (.tup [V.str "close", V.str kd.1]) b = some (.tup [V.str "close", V.str kd.1]) := upd_same
      have nm : ∀ q, H2 q = none → q ∉ D :: A.all r := fun q hq z => by
        rcases List.mem_cons.mp z with z | z
        · rw [z, hD2] at hq; cases hq
        · exact RdAt.trackedA R1 q (b2.free q hq) z
      have hlen := le_line (n := 20002) (by omega)
      refine ⟨D, l, ps, _, rfl, rfl, s3 _ _ hD2, upd_same, (by show ps.length + 2 ≤ sizeLine; omega), ?_⟩
      have aD : a ≠ D := fun z => nm a na (by simp [z])
      have sab := sa
      have nb2 : H2 b = none := sa.free nb
      have bD : b ≠ D := fun z => nm b nb2 (by simp [z])
      have ha3 := sl _ _ (sb _ _ ha)
      have hb3 := sl _ _ hb
      have cu : Carry H2 (upd (upd (upd (upd H2 a (.tup [V.str "open", V.str kd.1])) b (.tup [V.str "close", V.str kd.1])) l (.lst [V.ref a, V.ref b])) D (.lst (ps ++ [V.ref a, V.ref b]))) (D :: A.all r) (D :: A.all r) := ⟨fun q o h => ⟨by
        rw [upd_ne (fun e => h.2 (by simp [e]))]
        exact s3 _ _ h.1, h.2⟩⟩
      refine ⟨_, _, ps ++ [V.ref a, V.ref b], rfl, ⟨fun q o hq hn => ?_, fun q hq => b2.free q (s3.free (upd_none hq))⟩, upd_same, by simp; omega, ?_⟩
      · rw [upd_ne (by simpa using hn)]
        exact s3 _ _ (b2.keep _ _ hq hn)
      · have e : (S.kinds.take (i + 1)).flatMap (fun k => [(("open" : Str), k.1), (("close" : Str), k.1)]) = (S.kinds.take i).flatMap (fun k => [(("open" : Str), k.1), (("close" : Str), k.1)]) ++ [(("open" : Str), kd.1), (("close" : Str), kd.1)] := by
          rw [List.take_add_one, hkd]
          simp
        rw [e, ← List.append_assoc]
        exact Pr.app (Pr.mono (fun _ _ z => PlAt.carry cu z) pr) (.cons ⟨a, rfl, by rw [upd_ne aD]; exact ha3, nm a na⟩ (.cons ⟨b, rfl, by rw [upd_ne bD]; exact hb3, nm b nb2⟩ .nil))
    · rintro σ H2 ⟨v2, v3, ps, rfl, b2, hD2, lp, pr⟩
      have e : S.kinds.take kv.length = S.kinds := List.take_of_length_le (by omega)
      rw [e] at pr
      refine ⟨_, rfl, (by show 2 ≤ sizeLine; decide), fun a na => ⟨(by show 1 ≤ sizeLine; decide), fun l nl => ?_⟩⟩
      have sa := Same.new (o := .tup [V.str "end", V.str ""]) na
      have sl := Same.new (o := .lst [V.ref a]) nl
      have ha : upd H2 a (.tup [V.str "end", V.str ""]) a = some (.tup [V.str "end", V.str ""]) := upd_same
      have hlen := le_line (n := 20002) (by omega)
      refine ⟨D, l, ps, _, rfl, rfl, sl _ _ (sa _ _ hD2), upd_same, (by show ps.length + 1 ≤ sizeLine; omega), fun p np => ?_⟩
      have sp := Same.new (o := .lst (ps ++ [V.ref a])) np
      have s2 := (sa.trans sl).trans sp
      have nDH : H D = none := st0.free nD
      have s02 : Same H H2 := fun q o hq => b2.keep _ _ (s1 _ _ hq) (by simpa using ne_of_none hq nDH)
      have np0 : H p = none := s02.free (sa.free (sl.free np))
      have nm : a ∉ A.all r := RdAt.trackedA R1 a (b2.free a na)
      refine k p (ps ++ [V.ref a]) _ (s02.trans s2) np0 upd_same ?_
      have cu : Carry H2 (upd (upd (upd H2 a (.tup [V.str "end", V.str ""])) l (.lst [V.ref a])) p (.lst (ps ++ [V.ref a]))) (D :: A.all r) (A.all r) := ⟨fun q o h => ⟨s2 _ _ h.1, fun z => h.2 (List.mem_cons_of_mem _ z)⟩⟩
      show Paired _ _ (([(("begin" : Str), ("" : Str))] ++ S.kinds.flatMap (fun k => [(("open" : Str), k.1), (("close" : Str), k.1)])) ++ [(("end" : Str), ("" : Str))])
      exact Pr.snoc ⟨a, rfl, sp _ _ (sl _ _ ha), nm⟩ (Pr.mono (fun _ _ z => PlAt.carry cu z) pr)
end
end K7
/-! part D1 -/
set_option Elab.async false
set_option linter.all false
set_option maxRecDepth 100000
namespace Rdr
open PySem L2
theorem But.grow {M N : List Addr} {H H1 H' : Hp} (a : But M H H1) (b : But N H1 H') (k : ∀ q ∈ N, q ∈ M ∨ H q = none) : But M H H' := ⟨fun q o hq hn => b.keep _ _ (a.keep _ _ hq hn) (fun z => (k q z).elim hn fun e => by rw [hq] at e; cases e), fun q hq => a.free q (b.free q hq)⟩
section
variable {C r : Addr} {H : Hp} {A : Adr} {S : Rd}
theorem RdAt.newCells (h : RdAt C H r A S) {dx c : Addr} (nc : H c = none) : RdAt C (L2.upd (L2.upd H c (.lst [])) r (.ins C dx (({ A with cl := c } : Adr).flds S.pos))) r { A with cl := c } { S with cells := [] } := by
  have tr : ∀ q ∈ A.own r, H q ≠ none := by
    obtain ⟨⟨dx, ob⟩, nd, ⟨lv, l1, l2⟩, ⟨kv, k1, k2⟩, ⟨cv, c1, c2⟩, ⟨fv, f1, f2⟩, ll, ⟨pv, p1, p2⟩, cl, wl, nr, xt⟩ := h
    intro q hq
    simp only [Adr.own, List.mem_cons, List.not_mem_nil, or_false] at hq
    rcases hq with rfl | rfl | rfl | rfl | rfl | rfl | rfl | rfl <;> simp_all
  obtain ⟨⟨_, ob⟩, nd, ⟨lv, l1, l2⟩, ⟨kv, k1, k2⟩, ⟨cv, c1, c2⟩, ⟨fv, f1, f2⟩, ll, ⟨pv, p1, p2⟩, cl, wl, nr, xt⟩ := h
  obtain ⟨n1, n2, n3, n4, n5, n6, n7, n8, n9, n10, n11, n12, n13, n14, n15, n16, n17, n18, n19, n20, n21, n22, n23, n24, n25, n26, n27, n28⟩ := own_ne nd
  have cne : ∀ q ∈ A.own r, q ≠ c := fun q hq z => tr q hq (z ▸ nc)
  have e_r := cne r (by simp [Adr.own])
  have e_kl := cne A.kl (by simp [Adr.own])
  have e_cd := cne A.cd (by simp [Adr.own])
  have e_fd := cne A.fd (by simp [Adr.own])
  have e_ll := cne A.ll (by simp [Adr.own])
  have e_pl := cne A.pl (by simp [Adr.own])
  have e_wl := cne A.wl (by simp [Adr.own])
  have ca : Carry H (L2.upd (L2.upd H c (.lst [])) r (.ins C dx (({ A with cl := c } : Adr).flds S.pos))) (A.all r) (({ A with cl := c } : Adr).all r) := ⟨fun a o hf => by
    have hr : a ≠ r := fun z => hf.2 (List.mem_append_left _ (by rw [z]; simp [Adr.own]))
    have hc : a ≠ c := fun z => by have := hf.1; rw [z, nc] at this; cases this
    refine ⟨by rw [upd_ne hr, upd_ne hc]; exact hf.1, fun z => hf.2 ?_⟩
    simp only [Adr.all, Adr.own, List.mem_append, List.mem_cons, List.not_mem_nil, or_false] at z ⊢
    rcases z with (z | z | z | z | z | z | z | z) | z <;> simp_all⟩
  refine ⟨⟨dx, upd_same⟩, ?_, ⟨lv, ca.fx _ _ l1, Pr.mono (fun _ _ => ca.ln) l2⟩, ⟨kv, by rw [upd_ne n1.symm, upd_ne e_kl]; exact k1, Pr.mono (fun _ _ => ca.kl) k2⟩, ⟨cv, by rw [upd_ne n2.symm, upd_ne e_cd]; exact c1, Pr.mono (fun _ _ => ca.cd) c2⟩, ⟨fv, by rw [upd_ne n3.symm, upd_ne e_fd]; exact f1, Pr.mono (fun _ _ => ca.fd) f2⟩,
    by rw [upd_ne n4.symm, upd_ne e_ll]; exact ll, ⟨pv, by rw [upd_ne n5.symm, upd_ne e_pl]; exact p1, p2⟩, by rw [upd_ne e_r.symm]; exact upd_same, by rw [upd_ne n7.symm, upd_ne e_wl]; exact wl, ca.fx _ _ nr, fun x hx => ⟨fun z => (xt x hx).1 (upd_none (upd_none z)), fun z => ?_⟩⟩
  · simp only [Adr.own, List.nodup_cons, List.mem_cons, not_or, List.not_mem_nil, not_false_eq_true, and_true, List.nodup_nil]
    exact ⟨⟨n1, n2, n3, n4, n5, e_r, n7⟩, ⟨n8, n9, n10, n11, e_kl, n13⟩, ⟨n14, n15, n16, e_cd, n18⟩, ⟨n19, n20, e_fd, n22⟩, ⟨n23, e_ll, n25⟩, ⟨e_pl, n27⟩, e_wl.symm⟩
  · have hxc : x ≠ c := fun e => (xt x hx).1 (e ▸ nc)
    refine (xt x hx).2 ?_
    simp only [Adr.own, List.mem_cons, List.not_mem_nil, or_false] at z ⊢
    rcases z with z | z | z | z | z | z | z | z <;> simp_all
theorem RdAt.newWorths (h : RdAt C H r A S) {dx c : Addr} (nc : H c = none) : RdAt C (L2.upd (L2.upd H c (.lst [])) r (.ins C dx (({ A with wl := c } : Adr).flds S.pos))) r { A with wl := c } { S with worths := [] } := by
  have tr : ∀ q ∈ A.own r, H q ≠ none := by
    obtain ⟨⟨dx, ob⟩, nd, ⟨lv, l1, l2⟩, ⟨kv, k1, k2⟩, ⟨cv, c1, c2⟩, ⟨fv, f1, f2⟩, ll, ⟨pv, p1, p2⟩, cl, wl, nr, xt⟩ := h
    intro q hq
    simp only [Adr.own, List.mem_cons, List.not_mem_nil, or_false] at hq
    rcases hq with rfl | rfl | rfl | rfl | rfl | rfl | rfl | rfl <;> simp_all
  obtain ⟨⟨_, ob⟩, nd, ⟨lv, l1, l2⟩, ⟨kv, k1, k2⟩, ⟨cv, c1, c2⟩, ⟨fv, f1, f2⟩, ll, ⟨pv, p1, p2⟩, cl, wl, nr, xt⟩ := h
  obtain ⟨n1, n2, n3, n4, n5, n6, n7, n8, n9, n10, n11, n12, n13, n14, n15, n16, n17, n18, n19, n20, n21, n22, n23, n24, n25, n26, n27, n28⟩ := own_ne nd
  have cne : ∀ q ∈ A.own r, q ≠ c := fun q hq z => tr q hq (z ▸ nc)
  have e_r := cne r (by simp [Adr.own])
  have e_kl := cne A.kl (by simp [Adr.own])
  have e_cd := cne A.cd (by simp [Adr.own])
  have e_fd := cne A.fd (by simp [Adr.own])
  have e_ll := cne A.ll (by simp [Adr.own])
  have e_pl := cne A.pl (by simp [Adr.own])
  have e_cl := cne A.cl (by simp [Adr.own])
  have ca : Carry H (L2.upd (L2.upd H c (.lst [])) r (.ins C dx (({ A with wl := c } : Adr).flds S.pos))) (A.all r) (({ A with wl := c } : Adr).all r) := ⟨fun a o hf => by
    have hr : a ≠ r := fun z => hf.2 (List.mem_append_left _ (by rw [z]; simp [Adr.own]))
    have hc : a ≠ c := fun z => by have := hf.1; rw [z, nc] at this; cases this
    refine ⟨by rw [upd_ne hr, upd_ne hc]; exact hf.1, fun z => hf.2 ?_⟩
    simp only [Adr.all, Adr.own, List.mem_append, List.mem_cons, List.not_mem_nil, or_false] at z ⊢
    rcases z with (z | z | z | z | z | z | z | z) | z <;> simp_all⟩
  refine ⟨⟨dx, upd_same⟩, ?_, ⟨lv, ca.fx _ _ l1, Pr.mono (fun _ _ => ca.ln) l2⟩, ⟨kv, by rw [upd_ne n1.symm, upd_ne e_kl]; exact k1, Pr.mono (fun _ _ => ca.kl) k2⟩, ⟨cv, by rw [upd_ne n2.symm, upd_ne e_cd]; exact c1, Pr.mono (fun _ _ => ca.cd) c2⟩, ⟨fv, by rw [upd_ne n3.symm, upd_ne e_fd]; exact f1, Pr.mono (fun _ _ => ca.fd) f2⟩,
    by rw [upd_ne n4.symm, upd_ne e_ll]; exact ll, ⟨pv, by rw [upd_ne n5.symm, upd_ne e_pl]; exact p1, p2⟩, by rw [upd_ne n6.symm, upd_ne e_cl]; exact cl, by rw [upd_ne e_r.symm]; exact upd_same, ca.fx _ _ nr, fun x hx => ⟨fun z => (xt x hx).1 (upd_none (upd_none z)), fun z => ?_⟩⟩
  · simp only [Adr.own, List.nodup_cons, List.mem_cons, not_or, List.not_mem_nil, not_false_eq_true, and_true, List.nodup_nil]
    exact ⟨⟨n1, n2, n3, n4, n5, n6, e_r⟩, ⟨n8, n9, n10, n11, n12, e_kl⟩, ⟨n14, n15, n16, n17, e_cd⟩, ⟨n19, n20, n21, e_fd⟩, ⟨n23, n24, e_ll⟩, ⟨n26, e_pl⟩, e_cl⟩
  · have hxc : x ≠ c := fun e => (xt x hx).1 (e ▸ nc)
    refine (xt x hx).2 ?_
    simp only [Adr.own, List.mem_cons, List.not_mem_nil, or_false] at z ⊢
    rcases z with z | z | z | z | z | z | z | z <;> simp_all
end
end Rdr
namespace K7
open PySem L2 Rdr LcX
abbrev sPart : Stmt := inClass (top 21) 4
/-- lines, labels, near apart, all as it was -/
structure AdvN (S S' : Rd) : Prop where
  eq : S' = { S with pos := S'.pos, labels := S'.labels, near := S'.near }
  le : S.pos ≤ S'.pos
theorem cellsM_eq {n : Nat} {S : Rd} : cellsM (n + 1) S = if (S.wordsAt 1).take 1 = [("cell" : Str)] then (cellM S (S.wordsAt 1)).bind (cellsM n) else .ok S := rfl
theorem placesM_eq {p k : Str} {r : List (Str × Str)} {S : Rd} : placesM ((p, k) :: r) S = if ({ S with near := chainOf S k } : Rd).wordsAt 1 = (if k = "" then [p] else [p, k]) then (blockOf 2 2 ({ S with near := chainOf S k } : Rd).on).bind (placesM r) else placesM r { S with near := chainOf S k } := rfl
theorem putK_le {κ : Type} [DecidableEq κ] {k : κ} {v : V} {kvs : List (κ × V)} : (putK kvs k v).length ≤ kvs.length + 1 := by
  unfold putK
  split
  · simp
  · simp
theorem word_okw {x : Str} (h : word x = true) : okw x = true := by
  unfold word at h
  obtain ⟨h1, h2⟩ := Bool.and_eq_true_iff.mp h
  obtain ⟨_, h3⟩ := Bool.and_eq_true_iff.mp h1
  have h3 := of_decide_eq_true h3
  unfold okw
  rw [decide_eq_true (by omega : x.length ≤ 20000)]
  show PyData.strOk x = true
  unfold PyData.strOk
  rw [← Array.all_toList]
  refine List.all_eq_true.mpr fun c hc => ?_
  have := List.all_eq_true.mp h2 c hc
  unfold letter at this
  obtain ⟨_, z⟩ := Bool.and_eq_true_iff.mp this
  have := of_decide_eq_true z
  exact decide_eq_true (by omega)
theorem okw_open : okw ("open" : Str) = true := by decide +kernel
theorem okw_close : okw ("close" : Str) = true := by decide +kernel
theorem places_ok {S : Rd} (h : Fine S) : ∀ x ∈ places S, okw x.1 = true ∧ okw x.2 = true := by
  intro x hx
  unfold places at hx
  rcases List.mem_append.mp hx with hx | hx
  · rcases List.mem_append.mp hx with hx | hx
    · have : x = (("begin" : Str), ("" : Str)) := by simpa using hx
      rw [this]
      exact ⟨by decide +kernel, by decide +kernel⟩
    · obtain ⟨k, hk, hx⟩ := List.mem_flatMap.mp hx
      have hw := word_okw (h.kn k hk)
      have : x = (("open" : Str), k.1) ∨ x = (("close" : Str), k.1) := by simpa using hx
      rcases this with e | e
      · rw [e]; exact ⟨okw_open, hw⟩
      · rw [e]; exact ⟨okw_close, hw⟩
  · have : x = (("end" : Str), ("" : Str)) := by simpa using hx
    rw [this]
    exact ⟨by decide +kernel, by decide +kernel⟩
theorem empty_len {x : Str} : x.length = 0 → x = "" := fun h => Str.ext' (Array.eq_empty_of_size_eq_zero h)
structure RQ (K : PySem.W.Frag) (mg : Str → Option Value) (cP fP : Addr) (fdP : FuncData) : Prop where
  P : RP K cP
  mgP : mg "Part" = some (.ref cP)
  M : Mk K cP fP
  F : Fun K "__init__" "Part.__init__" sPartInit fP fdP
  b : Binds K fdP ["self", "worths", "blocks"] []
def spPart (C cB : Addr) : Sp := fun vs H Q E => ∃ (r : Addr) (A : Adr) (S : Rd), vs = [.ref r] ∧ RdAt C H r A S ∧ Fine S ∧ S.parts < 2 ∧ match partM S with
  | .ok S' => ∀ (A' : Adr) (H' : Hp), But (A.own r) H H' → (∀ q ∈ A'.own r, q ∈ A.own r ∨ H q = none) → RdAt C H' r A' S' → Fine S' → S'.parts = S.parts + 1 → S'.ls = S.ls → Q .non H'
  | .bad n => Bad cB E (A.own r) H n
section
variable {P : Program} {w : World} {K : PySem.W.Frag} {mg : Str → Option Value} {base : Heap} {C cB fB cP fP : Addr} {fdB fdP : FuncData}
theorem sc_part : FnScope ["self", "blocks", "place", "kind"] ["self"] (defScope sPart) := ⟨rfl, rfl, rfl, by decide +kernel, rfl, by decide +kernel, by decide +kernel⟩
theorem ok_part {f : Addr} {fd : FuncData} {k : Nat} (hk : 4 ≤ k) (F : Fun K "read_part" "ProgramReader.read_part" sPart f fd) (T : RT K mg C cB fB fdB) (TQ : RQ K mg cP fP fdP) (Gg : MOk P w K mg base 2 C "begins" (spBegins C)) (Ga : MOk P w K mg base 1 C "words_at" (spWordsAt C)) (Gc : MOk P w K mg base 4 C "read_cell" (spCell C cB))
    (Gp : MOk P w K mg base 1 C "places" (spPlaces C)) (Gb : MOk P w K mg base k C "read_block" (spBlock C cB 2)) : FnOk P w K mg base (L2.CX P w) (k + 1) f fd ["self"] (spPart C cB) := by
  have GP : FnOk P w K mg base (L2.CX P w) 1 fP fdP ["self", "worths", "blocks"] (spPartInit cP) := ok_partInit TQ.F TQ.P
  refine F.okX sc_part (fun vs H Q E h => ?_) (fun cdv A outer s H vs Q E hr h => ?_)
  · obtain ⟨r, A, S, rfl, _⟩ := h
    rfl
  · obtain ⟨r, A, S, rfl, R, S1, hq2, kk⟩ := h
    have hr4 : Room 4 _ := hr.mono (by omega)
    have hr2 : Room 2 _ := hr.mono (by omega)
    have hr1 : Room 1 _ := hr.mono (by omega)
    have hu := hu_of hr
    refine ⟨_, pss_cons (ps_fld (pv 0) (pe_lst pa_nil) rfl)
      (pss_cons (ps_fld (pv 0) (pe_lst pa_nil) rfl)
      (pss_cons (ps_while (passes_of rfl) (pt_val (m_meth (pv 0) T.cl Gg hr2 passL (pa_cons pe_int (pa_cons pe_str pa_nil))))
          (pss_one (ps_expr (m_meth (pv 0) T.cl Gc hr4 (passes_call (takes_of rfl rfl rfl rfl) (fun _ _ _ _ z => z)) (pa_cons (m_meth (pv 0) T.cl Ga hr1 passL (pa_cons pe_int pa_nil)) pa_nil)))))
      (pss_cons (ps_set (i := 1) sc_part.nd rfl (Or.inl rfl) pe_dnewT)
      (pss_cons (ps_for (passes_of rfl) rfl (pi_list (m_meth0 (pv 0) T.cl Gp hr1 passL)) (pg_tup rfl (pgs_cons (pg_name (i := 2) sc_part.nd rfl (Or.inl rfl)) (pgs_cons (pg_name (i := 3) sc_part.nd rfl (Or.inl rfl)) pgs_nil)))
          (pss_cons (ps_fld (pv 0) (pe_dget2 hu (pe_fld (pv 0) rfl) (pv 3) (pe_tup pa_nil) ⟨rfl, rfl, rfl, rfl⟩) rfl)
          (pss_cons (ps_dput hu (pv 1) (pe_tup (pa_cons (pv 2) (pa_cons (pv 3) pa_nil))) (pe_tup pa_nil) rfl)
          (pss_one (ps_if (pt_cmpR (op_eqD hr.units) (m_meth (pv 0) T.cl Ga hr1 passL (pa_cons pe_int pa_nil)) (pe_ifExp (pt_truth (pv 3) (by intro _; rfl)) (pe_lst (pa_cons (pv 2) (pa_cons (pv 3) pa_nil))) (pe_lst (pa_cons (pv 2) pa_nil))) (nomark _))
            (pss_cons (ps_fldaug (pv 0) pe_int in_add)
            (pss_one (ps_dput hu (pv 1) (pe_tup (pa_cons (pv 2) (pa_cons (pv 3) pa_nil))) (m_meth (pv 0) T.cl Gb hr (passes_call (takes_of rfl rfl rfl rfl) (fun _ _ _ _ z => z)) (pa_cons pe_int (pa_cons pe_int pa_nil))) rfl))) pss_nil)))))
      (pss_one (ps_expr (pe_bm PySem.F.plainAttrs_list PySem.F.slot_list_append PySem.F.type_list_append mt_append (pe_fld (pv 0) rfl)
          (pa_cons (pe_make TQ.M GP hr2 rfl TQ.mgP TQ.b .nil passL (pa_cons (pe_callTy call_tuple_of (by rfl) T.tuple (by decide +kernel) (pa_cons (pe_fld (pv 0) rfl) pa_nil)) (pa_cons (pv 1) pa_nil))) pa_nil)))))))), ?_⟩
    obtain ⟨dx, ob⟩ := R.ob
    refine ⟨(by show 0 ≤ sizeLine; decide), fun c1 nc1 => ?_⟩
    have sc1 := Same.new (o := .lst []) nc1
    refine ⟨_, rfl, r, C, dx, _, rfl, sc1 _ _ ob, T.cl, T.cells, (by show 10 < 1000; decide), ?_⟩
    have R1 := R.newCells (dx := dx) nc1
    generalize hH1 : upd (upd H c1 _) r _ = H1
    have R1 : RdAt C H1 r { A with cl := c1 } { S with cells := [] } := by rw [← hH1]; exact R1
    have b1 : But (A.own r) H H1 := by rw [← hH1]; exact (But.of sc1).trans (.upd (by simp [Adr.own]))
    obtain ⟨dx1, ob1⟩ := R1.ob
    refine ⟨(by show 0 ≤ sizeLine; decide), fun w1 nw1 => ?_⟩
    have sw1 := Same.new (o := .lst []) nw1
    refine ⟨_, rfl, r, C, dx1, _, rfl, sw1 _ _ ob1, T.cl, T.worths, (by show 10 < 1000; decide), ?_⟩
    have R2 := R1.newWorths (dx := dx1) nw1
    generalize hH2 : upd (upd H1 w1 _) r _ = H2
    generalize hA2 : ({ A with cl := c1, wl := w1 } : Adr) = A2
    have R2 : RdAt C H2 r A2 { S with cells := [], worths := [] } := by rw [← hH2, ← hA2]; exact R2
    have b2 : But (A.own r) H H2 := by rw [← hH2]; exact b1.trans ((But.of sw1).trans (.upd (by simp [Adr.own])))
    have own2 : ∀ q ∈ A2.own r, q ∈ A.own r ∨ H q = none := fun q hq => by
      rw [← hA2] at hq
      simp only [Adr.own, List.mem_cons, List.not_mem_nil, or_false] at hq ⊢
      rcases hq with z | z | z | z | z | z | z | z
      · exact .inl (by simp [z])
      · exact .inl (by simp [z])
      · exact .inl (by simp [z])
      · exact .inl (by simp [z])
      · exact .inl (by simp [z])
      · exact .inl (by simp [z])
      · exact .inr (by rw [z]; exact nc1)
      · exact .inr (by rw [z]; exact b1.free _ nw1)
    generalize hS0 : ({ S with cells := [], worths := [] } : Rd) = S0 at R2
    have F0 : Fine S0 := by rw [← hS0]; exact ⟨S1.p, S1.n, S1.ws, S1.k, S1.c, S1.f, S1.cf, S1.ff, S1.nf, S1.l, by simp, S1.q, S1.ck, S1.kw, S1.kn⟩
    have e0 : S0.parts = S.parts ∧ S0.ls = S.ls ∧ S0.pos = S.pos := by rw [← hS0]; exact ⟨rfl, rfl, rfl⟩
    have kk : match ((cellsM (S0.ls.length - S0.pos + 1) S0).bind fun S => (placesM (places S) S).bind fun S => .ok { S with parts := S.parts + 1 }) with
        | .ok S' => ∀ (A' : Adr) (H' : Hp), But (A.own r) H H' → (∀ q ∈ A'.own r, q ∈ A.own r ∨ H q = none) → RdAt C H' r A' S' → Fine S' → S'.parts = S.parts + 1 → S'.ls = S.ls → Q .non H'
        | .bad n => Bad cB E (A.own r) H n := by rw [← hS0]; exact kk
    have badIn : ∀ (n : Int), Bad cB E (A.own r) H n → ∀ (M : List Addr) (H' : Hp), But (A.own r) H H' → (∀ q ∈ M, q ∈ A.own r ∨ H q = none) → Bad cB E M H' n := fun n b M H' hb hm d H'' hd hk hx => b d H'' (hb.free d hd) (hb.grow hk hm) hx
    refine ⟨fun m σ H' => ∃ S', σ = [some (.ref r), none, none, none] ∧ But (A2.own r) H2 H' ∧ RdAt C H' r A2 S' ∧ Fine S' ∧ AdvC S0 S' ∧ S'.ls.length - S'.pos + 1 ≤ m ∧ cellsM m S' = cellsM (S0.ls.length - S0.pos + 1) S0,
      ⟨_, S0, rfl, .refl, R2, F0, .refl, Nat.le_refl _, rfl⟩, ?_⟩
    rintro m σ H3 ⟨S3, rfl, b3, R3, F3, v3, hm, hM⟩
    obtain ⟨dx3, ob3⟩ := R3.ob
    have bH3 : But (A.own r) H H3 := b2.grow b3 own2
    obtain ⟨m, rfl⟩ : ∃ m', m = m' + 1 := ⟨m - 1, by omega⟩
    rw [cellsM_eq] at hM
    refine ⟨_, rfl, r, dx3, _, rfl, ob3, noMeth (by decide +kernel), r, A2, S3, 1, _, rfl, R3, F3, by decide, by decide, by decide +kernel, fun H4 s4 => ⟨_, rfl, ?_⟩⟩
    have R4 := R3.same s4
    obtain ⟨dx4, ob4⟩ := R4.ob
    have b4 : But (A2.own r) H2 H4 := b3.trans (.of s4)
    refine ite2 (fun h1 => ?_) (fun h1 => ?_)
    · have h1 := of_decide_eq_true h1
      rw [if_pos h1] at hM
      refine ⟨_, fun _ _ z => z, ?_⟩
      have hne : S3.wordsAt 1 ≠ [] := fun z => by rw [z] at h1; simp at h1
      have pos3 := Rd.more hne
      refine ⟨_, rfl, r, dx4, _, rfl, ob4, noMeth (by decide +kernel), _, rfl, r, dx4, _, rfl, ob4, noMeth (by decide +kernel), r, A2, S3, 1, rfl, R4, F3.p, by decide, by decide, fun a H5 s5 na ha => ?_⟩
      have R5 := R4.same s5
      have b5 : But (A2.own r) H2 H5 := b4.trans (.of s5)
      refine ⟨r, a, A2, S3, S3.wordsAt 1, rfl, R5, F3, ⟨ha, (F3.words 1).1, (F3.words 1).2⟩, na, pos3, List.length_pos_iff.mpr hne, ?_⟩
      cases hc : cellM S3 (S3.wordsAt 1) with
      | bad n =>
        rw [hc] at hM
        rw [← hM] at kk
        exact badIn n kk _ _ (b2.grow b5 own2) own2
      | ok S6 =>
        rw [hc] at hM
        intro H6 b6 R6 F6 hp6 v6
        have e6 : S6.ls.length = S3.ls.length := by rw [v6.eq]
        exact ⟨m, Nat.lt_succ_self _, S6, rfl, b5.trans b6, R6, F6, v3.trans v6, by rw [e6, hp6]; omega, hM⟩
    · have h1 : ¬ (S3.wordsAt 1).take 1 = [("cell" : Str)] := fun z => h1 (decide_eq_true z)
      rw [if_neg h1] at hM
      rw [← hM] at kk
      have kk : match ((placesM (places S3) S3).bind fun S => .ok { S with parts := S.parts + 1 }) with
        | .ok S' => ∀ (A' : Adr) (H' : Hp), But (A.own r) H H' → (∀ q ∈ A'.own r, q ∈ A.own r ∨ H q = none) → RdAt C H' r A' S' → Fine S' → S'.parts = S.parts + 1 → S'.ls = S.ls → Q .non H'
        | .bad n => Bad cB E (A.own r) H n := kk
      have p3 : S3.parts = S.parts ∧ S3.ls = S.ls := by
        rw [v3.eq]
        exact ⟨e0.1, e0.2.1⟩
      -- the blocks
      intro bd nbd
      have sbd := Same.new (o := .dT []) nbd
      have R5 : RdAt C (upd H4 bd (.dT [])) r { A2 with xt := bd :: A2.xt } S3 := R4.enter nbd
      have hbd5 : upd H4 bd (.dT []) bd = some (.dT []) := upd_same
      generalize upd H4 bd (.dT []) = H5 at R5 hbd5 sbd ⊢
      have b5 : But (A2.own r) H2 H5 := b4.trans (.of sbd)
      obtain ⟨dx5, ob5⟩ := R5.ob
      refine ⟨_, rfl, r, dx5, _, rfl, ob5, noMeth (by decide +kernel), r, { A2 with xt := bd :: A2.xt }, S3, rfl, R5, F3, fun D ps H6 s6 nD hD prs => ?_⟩
      have R6 := R5.same s6
      have hbd6 := s6 _ _ hbd5
      have nDb : D ≠ bd := fun z => by rw [z, hbd5] at nD; cases nD
      have nDo : D ∉ A2.own r := fun z => RdAt.tracked R5 D z nD
      have nbo : bd ∉ A2.own r := (R5.xt bd List.mem_cons_self).2
      have nbH : H bd = none := (b2.grow b4 own2).free _ nbd
      have lps := prs.length
      have lpl : (places S3).length ≤ 10 := by
        have := F3.k
        unfold places
        simp only [List.length_append, List.length_cons, List.length_nil, List.length_flatMap]
        have : ∀ l : List (Str × Str × List Str), (l.map fun _ => 2).sum = 2 * l.length := fun l => by
          induction l with
          | nil => rfl
          | cons a r ih => rw [List.map_cons, List.sum_cons, ih, List.length_cons]; omega
        have := this S3.kinds
        simp at this ⊢
        omega
      refine ⟨D, rfl, ⟨_, SqL.of hD⟩, for_list (K := K) (a := D) (xs := ps) (fun i σ H' => ∃ (nr : Addr) (S' : Rd) (kvs : List (List Key × V)) (v2 v3 : Option V), σ = [some (.ref r), some (.ref bd), v2, v3] ∧ But (bd :: A2.own r) H6 H' ∧ RdAt C H' r { A2 with nr := nr, xt := bd :: A2.xt } S' ∧ Fine S' ∧ AdvN S3 S' ∧
          H' bd = some (.dT kvs) ∧ kvs.length ≤ 2 * i ∧ placesM ((places S3).drop i) S' = placesM (places S3) S3)
        ⟨A2.nr, S3, [], none, none, rfl, .refl, R6, F3, ⟨rfl, Nat.le_refl _⟩, hbd6, by simp, rfl⟩ (fun i σ H' _ ⟨_, _, _, _, _, _, b, _⟩ => SqL.of (b.keep _ _ hD (by simp [nDb, nDo]))) ?_ ?_⟩
      · rintro i y σ H7 hi ⟨nr, S7, kvs, v2, v3', rfl, b7, R7, F7, v7, hbd7, lk, hM7⟩
        have hil : i < ps.length := (List.getElem?_eq_some_iff.mp hi).1
        obtain ⟨pk, hpk⟩ : ∃ pk, (places S3)[i]? = some pk := ⟨_, List.getElem?_eq_getElem (by omega)⟩
        obtain ⟨p, kd⟩ := pk
        obtain ⟨y', hy', t, ey, ft⟩ := Pr.at prs hpk
        rw [hi] at hy'
        cases hy'
        subst ey
        have nta : t ∉ bd :: A2.own r := fun z => ft.2 (by
          rcases List.mem_cons.mp z with z | z
          · rw [z]; exact List.mem_append_right _ List.mem_cons_self
          · exact List.mem_append_left _ z)
        have ht7 := b7.keep _ _ ft.1 nta
        have hdrop : (places S3).drop i = (p, kd) :: (places S3).drop (i + 1) := by
          rw [List.drop_eq_getElem_cons (by omega)]
          rw [List.getElem?_eq_getElem (by omega)] at hpk
          rw [Option.some.inj hpk]
        rw [hdrop, placesM_eq] at hM7
        obtain ⟨dx7, ob7⟩ := R7.ob
        obtain ⟨cv, c71, c72⟩ := R7.cd
        refine ⟨t, _, rfl, SqT.of ht7, rfl, _, _, rfl, _, _, rfl, rfl, ?_⟩
        refine ⟨_, rfl, r, C, dx7, _, _, rfl, ob7, T.cl, T.chains, rfl, A2.cd, rfl, .inl ⟨_, .inl c71⟩, _, rfl, (by show 0 ≤ sizeLine; decide), fun u nu => ?_⟩
        have su := Same.new (o := .tup []) nu
        have hu1 : upd H7 u (.tup []) u = some (.tup []) := upd_same
        have nun : u ∉ ({ A2 with nr := nr, xt := bd :: A2.xt } : Adr).all r := RdAt.trackedA R7 u nu
        generalize upd H7 u (.tup []) = H8 at hu1 su ⊢
        refine ⟨_, DGet.k (k := Sum.inr kd) (su _ _ c71), ?_⟩
        obtain ⟨a9, ea, ha9⟩ : ∃ a, (valV cv (.inr kd : Key)).getD (.ref u) = .ref a ∧ Fix H8 (({ A2 with nr := nr, xt := bd :: A2.xt } : Adr).all r) a (.tup (wlist (chainOf S7 kd))) := by
          cases e : S7.chains.lookup kd with
          | none =>
            rw [(ch_get c72).2 e]
            exact ⟨u, rfl, by unfold chainOf; rw [e]; exact ⟨hu1, nun⟩⟩
          | some c =>
            obtain ⟨ta, z1, z2⟩ := (ch_get c72).1 c e
            rw [z1]
            exact ⟨ta, rfl, by unfold chainOf; rw [e]; exact ⟨su _ _ z2.1, z2.2⟩⟩
        rw [ea]
        have R8 := R7.same su
        have chn : (chainOf S7 kd).length ≤ 3 ∧ ∀ x ∈ chainOf S7 kd, (S7.fields.lookup x).isSome = true := by
          unfold chainOf
          cases e : S7.chains.lookup kd with
          | none => simp
          | some c => exact F7.cf _ (look_in e)
        refine ⟨_, rfl, r, C, dx7, _, rfl, su _ _ ob7, T.cl, T.near, (by show 10 < 1000; decide), ?_⟩
        have R9 := R8.setNear (dx := dx7) ha9
        generalize hH9 : upd H8 r _ = H9
        have R9 : RdAt C H9 r { A2 with nr := a9, xt := bd :: A2.xt } { S7 with near := chainOf S7 kd } := by rw [← hH9]; exact R9
        have b9 : But (bd :: A2.own r) H6 H9 := by rw [← hH9]; exact b7.trans ((But.of su).trans (.upd (by simp [Adr.own])))
        have hbd9 : H9 bd = some (.dT kvs) := by rw [← hH9, upd_ne (fun z => nbo (by rw [z]; simp [Adr.own]))]; exact su _ _ hbd7
        generalize hS9 : ({ S7 with near := chainOf S7 kd } : Rd) = S9 at R9 hM7
        have F9 : Fine S9 := by rw [← hS9]; exact ⟨F7.p, F7.n, F7.ws, F7.k, F7.c, F7.f, F7.cf, F7.ff, chn, F7.l, F7.w, F7.q, F7.ck, F7.kw, F7.kn⟩
        have v9 : AdvN S3 S9 := by
          rw [← hS9]
          refine ⟨?_, v7.le⟩
          rw [v7.eq]
        -- blocks[place, kind] = ()
        refine ⟨(by show 0 ≤ sizeLine; decide), fun e ne => ⟨_, rfl, _, rfl, _, rfl, (by show 2 ≤ sizeLine; decide), fun q nq => ?_⟩⟩
        have se := Same.new (o := .tup []) ne
        have sq := Same.new (o := .tup [V.str p, V.str kd]) nq
        have hq1 : upd (upd H9 e (.tup [])) q (.tup [V.str p, V.str kd]) q = some (.tup [V.str p, V.str kd]) := upd_same
        have hlen := le_line (n := 20002) (by omega)
        refine ⟨bd, _, rfl, DPut.t (k := [.inr p, .inr kd]) (sq _ _ (se _ _ hbd9)) hq1 (by omega), ?_⟩
        have lk10 := putK_le (k := ([.inr p, .inr kd] : List Key)) (v := .ref e) (kvs := kvs)
        generalize hK10 : putK kvs ([.inr p, .inr kd] : List Key) (.ref e) = kvs10 at lk10 ⊢
        have R10 : RdAt C (upd (upd (upd H9 e (.tup [])) q (.tup [V.str p, V.str kd])) bd (.dT kvs10)) r { A2 with nr := a9, xt := bd :: A2.xt } S9 := ((R9.same se).same sq).store List.mem_cons_self
        have b10 : But (bd :: A2.own r) H6 (upd (upd (upd H9 e (.tup [])) q (.tup [V.str p, V.str kd])) bd (.dT kvs10)) := b9.trans ((But.of (se.trans sq)).trans (.upd List.mem_cons_self))
        have hbd10 : (upd (upd (upd H9 e (.tup [])) q (.tup [V.str p, V.str kd])) bd (.dT kvs10)) bd = some (.dT kvs10) := upd_same
        generalize upd (upd (upd H9 e (.tup [])) q (.tup [V.str p, V.str kd])) bd (.dT kvs10) = H10 at R10 b10 hbd10 ⊢
        obtain ⟨dx10, ob10⟩ := R10.ob
        refine ⟨_, rfl, r, dx10, _, rfl, ob10, noMeth (by decide +kernel), r, { A2 with nr := a9, xt := bd :: A2.xt }, S9, 1, rfl, R10, F9.p, by decide, by decide, fun l H11 s11 nl hl => ?_⟩
        refine ⟨_, rfl, _, ⟨?_, rfl⟩, ?_⟩
        · have := okw_le (places_ok F3 _ (List.mem_of_getElem? hpk)).2
          exact le_line (by omega)
        have okp := places_ok F3 _ (List.mem_of_getElem? hpk)
        have toH : ∀ H', But (bd :: A2.own r) H6 H' → But (A.own r) H H' := fun H' b => ((b2.grow b5 own2).trans (.of s6)).grow b fun q hq => by
          rcases List.mem_cons.mp hq with z | z
          · exact .inr (by rw [z]; exact nbH)
          · exact own2 q z
        have b11 : But (bd :: A2.own r) H6 H11 := b10.trans (.of s11)
        have R11 := R10.same s11
        have hbd11 := s11 _ _ hbd10
        obtain ⟨tl, htl, okt⟩ : ∃ tl : List Str, tl = (if kd = "" then [p] else [p, kd]) ∧ ∀ x ∈ tl, okw x = true := ⟨_, rfl, fun x hx => by
          by_cases h : kd = ""
          · rw [if_pos h] at hx
            have : x = p := by simpa using hx
            rw [this]; exact okp.1
          · rw [if_neg h] at hx
            have : x = p ∨ x = kd := by simpa using hx
            rcases this with e | e
            · rw [e]; exact okp.1
            · rw [e]; exact okp.2⟩
        rw [← htl] at hM7
        rcases Classical.em (kd = "") with hk | hk
        all_goals first
          | (rw [show (((kd.length : Int)) != 0) = false by rw [hk]; rfl]
             refine iteF ?_
             rw [if_pos hk] at htl
             refine ⟨_, rfl, (by show 1 ≤ sizeLine; decide), fun z nz => ?_⟩
             have hz : upd H11 z (.lst [V.str p]) z = some (.lst (wlist tl)) := (by rw [upd_same, htl]; rfl)
             have sz := Same.new (o := .lst [V.str p]) nz
             generalize upd H11 z (.lst [V.str p]) = H12 at hz sz ⊢)
          | (rw [show (((kd.length : Int)) != 0) = true by
               have : kd.length ≠ 0 := fun z => hk (empty_len z)
               simp
               exact this]
             refine iteT ?_
             rw [if_neg hk] at htl
             refine ⟨_, rfl, _, rfl, (by show 2 ≤ sizeLine; decide), fun z nz => ?_⟩
             have hz : upd H11 z (.lst [V.str p, V.str kd]) z = some (.lst (wlist tl)) := (by rw [upd_same, htl]; rfl)
             have sz := Same.new (o := .lst [V.str p, V.str kd]) nz
             generalize upd H11 z (.lst [V.str p, V.str kd]) = H12 at hz sz ⊢)
        all_goals
          refine ⟨pstrs (S9.wordsAt 1), pstrs tl, dp_strs (sz _ _ hl), dp_strs hz, shaped_strs (F9.words 1).2, shaped_strs okt, _, rfl, ?_⟩
          rw [eqv_strs]
          have b12 : But (bd :: A2.own r) H6 H12 := b11.trans (.of sz)
          have R12 := R11.same sz
          have hbd12 := sz _ _ hbd11
          obtain ⟨dx12, ob12⟩ := R12.ob
          refine ite2 (fun hw => ?_) (fun hw => ?_)
          · have hw := of_decide_eq_true hw
            rw [if_pos hw] at hM7
            have pos9 : S9.pos < S9.ls.length := Rd.more (d := 1) (by
              rw [hw, htl]
              simp)
            refine ⟨_, rfl, r, C, dx12, _, _, rfl, ob12, T.cl, T.at_, rfl, _, _, rfl, rfl, dx12, _, ob12, (by show 10 < 1000; decide), ?_⟩
            have R13 := R12.goTo (dx := dx12) (S9.pos + 1)
            generalize hH13 : upd H12 r _ = H13
            have R13 : RdAt C H13 r { A2 with nr := a9, xt := bd :: A2.xt } S9.on := by rw [← hH13]; exact R13
            have b13 : But (bd :: A2.own r) H6 H13 := by rw [← hH13]; exact b12.trans (.upd (by simp [Adr.own]))
            have hbd13 : H13 bd = some (.dT kvs10) := by rw [← hH13, upd_ne (fun z => nbo (by rw [z]; simp [Adr.own]))]; exact hbd12
            obtain ⟨dx13, ob13⟩ := R13.ob
            have st9 := Adv.step F9 pos9
            refine ⟨_, rfl, r, dx13, _, rfl, ob13, noMeth (by decide +kernel), r, { A2 with nr := a9, xt := bd :: A2.xt }, S9.on, 2, 0, rfl, by decide, by decide, by decide, by decide, R13, st9.fine F9, ?_⟩
            cases hb : blockOf 2 2 S9.on with
            | bad n =>
              rw [hb] at hM7
              rw [← hM7] at kk
              exact badIn n kk _ _ (toH _ b13) own2
            | ok S14 =>
              rw [hb] at hM7
              intro p' xs H14 b14 R14 v14 h14 hp14
              have b14' : But (bd :: A2.own r) H6 H14 := b13.trans ⟨fun q o hq hn => b14.keep _ _ hq fun z => hn (List.mem_cons_of_mem _ z), b14.free⟩
              have hbd14 := b14.keep _ _ hbd13 nbo
              refine ⟨_, rfl, _, rfl, _, rfl, (by show 2 ≤ sizeLine; decide), fun q2 nq2 => ?_⟩
              have sq2 := Same.new (o := .tup [V.str p, V.str kd]) nq2
              have lk14 := putK_le (k := ([.inr p, .inr kd] : List Key)) (v := .ref p') (kvs := kvs10)
              refine ⟨bd, _, rfl, DPut.t (k := [.inr p, .inr kd]) (sq2 _ _ hbd14) upd_same (by omega), ?_⟩
              have e9 : AdvN S3 S14 := by
                refine ⟨?_, Nat.le_trans v9.le (Nat.le_trans st9.le v14.le)⟩
                rw [(st9.trans v14).eq, v9.eq]
              exact ⟨a9, S14, _, _, _, rfl, b14'.trans ((But.of sq2).trans (.upd List.mem_cons_self)), (R14.same sq2).store List.mem_cons_self, (st9.trans v14).fine F9, e9, upd_same, by omega, hM7⟩
          · have hw : ¬ S9.wordsAt 1 = tl := fun z => hw (decide_eq_true z)
            rw [if_neg hw] at hM7
            exact ⟨a9, S9, kvs10, _, _, rfl, b12, R12, F9, v9, hbd12, by omega, hM7⟩
      · rintro σ H7 ⟨nr, S7, kvs, v2, v3', rfl, b7, R7, F7, v7, hbd7, lk, hM7⟩
        rw [List.drop_of_length_le (by omega)] at hM7
        have hM7 : Res.ok S7 = placesM (places S3) S3 := hM7
        rw [← hM7] at kk
        obtain ⟨dx7, ob7⟩ := R7.ob
        obtain ⟨pv, p71, p72⟩ := R7.pl
        have e7 : S7.parts = S.parts ∧ S7.ls = S.ls := by
          rw [v7.eq]
          exact p3
        refine ⟨_, rfl, r, C, dx7, _, _, rfl, ob7, T.cl, T.parts, rfl, .inl ⟨rfl, _, SqL.of p71⟩, _, rfl, r, C, dx7, _, _, rfl, ob7, T.cl, T.worths, rfl, A2.wl, _, rfl, .inl ⟨SqL.of R7.wl, fun t nt => ⟨_, rfl, fun x dx' nx ndx nex => ⟨x, dx', _, _, rfl, upd_same, fun H8 b8 => ⟨rfl, ?_⟩⟩⟩⟩⟩
        have st := Same.new (o := .tup (ilist S7.worths)) nt
        have s8 : Same H7 H8 := fun q o hq => by
          have h1 := st _ _ hq
          have qx : q ≠ x := ne_of_none h1 nx
          have qd : q ≠ dx' := ne_of_none h1 ndx
          exact b8.keep _ _ (by rw [upd_ne qx, upd_ne qd]; exact h1) (by simpa using qx)
        have R8 := R7.same s8
        refine ⟨A2.pl, pv, _, rfl, rfl, s8 _ _ p71, ?_, ?_⟩
        · have := le_line (n := 20002) (by omega)
          have : S7.parts ≤ 2 := F7.q
          omega
        have R9 := R8.addPart (s8 _ _ p71) (.ref x)
        have toH : But (A.own r) H H7 := ((b2.grow b5 own2).trans (.of s6)).grow b7 fun q hq => by
          rcases List.mem_cons.mp hq with z | z
          · exact .inr (by rw [z]; exact nbH)
          · exact own2 q z
        exact kk { A2 with nr := nr } _ ((toH.trans (.of s8)).grow (.upd (M := A2.own r) (by simp [Adr.own])) own2) own2 (RdAt.leave R9) ⟨F7.p, F7.n, F7.ws, F7.k, F7.c, F7.f, F7.cf, F7.ff, F7.nf, F7.l, F7.w, by show S7.parts + 1 ≤ 2; rw [e7.1]; omega, F7.ck, F7.kw, F7.kn⟩ (by show S7.parts + 1 = _; rw [e7.1]) e7.2
end
end K7
/-! part D2 -/
set_option Elab.async false
set_option linter.all false
set_option maxRecDepth 100000
namespace K7
open PySem L2 Rdr LcX
abbrev sRead : Stmt := inClass (top 21) 1
theorem kindsM_eq {n : Nat} {S : Rd} : kindsM (n + 1) S = if (S.wordsAt 0).take 1 = [("kind" : Str)] then (kindM S (S.wordsAt 0)).bind (kindsM n) else .ok S := rfl
theorem partsM_eq {n : Nat} {S : Rd} : partsM (n + 1) S = if S.wordsAt 0 = [("pass" : Str)] ∧ S.parts < 2 then (partM S.on).bind (partsM n) else .ok S := rfl
def spRead (C cB : Addr) : Sp := fun vs H Q E => ∃ (r : Addr) (A : Adr) (S : Rd), vs = [.ref r] ∧ RdAt C H r A S ∧ Fine S ∧ S.parts = 0 ∧ match readM S with
  | .ok S' => ∀ (A' : Adr) (H' : Hp), But (A.own r) H H' → (∀ q ∈ A'.own r, q ∈ A.own r ∨ H q = none) → RdAt C H' r A' S' → Fine S' → Q .non H'
  | .bad n => Bad cB E (A.own r) H n
theorem bind_ok {A B : Type} {r : Res A} {f : A → Res B} {b : B} (h : r.bind f = .ok b) : ∃ a, r = .ok a ∧ f a = .ok b := by
  cases r with
  | ok a => exact ⟨a, rfl, h⟩
  | bad n => cases h
theorem need_ok {A : Type} {S : Rd} {b : Bool} {r : Res A} {x : A} (h : S.need b r = .ok x) : r = .ok x := by
  unfold Rd.need at h
  cases b with
  | true => exact h
  | false => cases h
theorem fieldsM_parts : ∀ {n : Nat} {S S' : Rd} {acc fs : List Str}, fieldsM n S acc = .ok (S', fs) → S'.parts = S.parts
  | 0, S, S', acc, fs, h => by cases h; rfl
  | n + 1, S, S', acc, fs, h => by
    unfold fieldsM at h
    dsimp only at h
    split at h
    · cases h; rfl
    · have := fieldsM_parts (need_ok (need_ok h))
      exact this
theorem kindM_parts {S S' : Rd} {ws : List Str} (h : kindM S ws = .ok S') : S'.parts = S.parts := by
  unfold kindM at h
  have h := need_ok (need_ok h)
  obtain ⟨o, _, h⟩ := bind_ok h
  obtain ⟨⟨S1, fs⟩, h1, h⟩ := bind_ok h
  cases h
  have := fieldsM_parts h1
  exact this
theorem on_fine {S : Rd} (h : Fine S) (hp : S.pos < S.ls.length) : Fine S.on := (Adv.step h hp).fine h
section
variable {P : Program} {w : World} {K : PySem.W.Frag} {mg : Str → Option Value} {base : Heap} {C cB fB : Addr} {fdB : FuncData}
theorem sc_read : FnScope ["self"] ["self"] (defScope sRead) := ⟨rfl, rfl, rfl, by decide +kernel, rfl, by decide +kernel, by decide +kernel⟩
theorem ok_read {f : Addr} {fd : FuncData} {k : Nat} (hk : 5 ≤ k) (F : Fun K "read" "ProgramReader.read" sRead f fd) (T : RT K mg C cB fB fdB) (TC : RC mg) (Gg : MOk P w K mg base 2 C "begins" (spBegins C)) (Ga : MOk P w K mg base 1 C "words_at" (spWordsAt C)) (Gn : MOk P w K mg base 3 C "need" (spNeed C cB))
    (Gk : MOk P w K mg base 5 C "read_kind" (spKind C cB)) (Gp : MOk P w K mg base k C "read_part" (spPart C cB)) : FnOk P w K mg base (L2.CX P w) (k + 1) f fd ["self"] (spRead C cB) := by
  obtain ⟨tP, cP⟩ := TC.MOST_PASSES
  refine F.okX sc_read (fun vs H Q E h => ?_) (fun cdv A outer s H vs Q E hr h => ?_)
  · obtain ⟨r, A, S, rfl, _⟩ := h
    rfl
  · obtain ⟨r, A, S, rfl, R, S1, h0, kk⟩ := h
    have hr5 : Room 5 _ := hr.mono (by omega)
    have hr3 : Room 3 _ := hr.mono (by omega)
    have hr2 : Room 2 _ := hr.mono (by omega)
    have hr1 : Room 1 _ := hr.mono (by omega)
    refine ⟨_, pss_cons (ps_while (passes_of rfl) (pt_val (m_meth (pv 0) T.cl Gg hr2 passL (pa_cons pe_int (pa_cons pe_str pa_nil))))
          (pss_one (ps_expr (m_meth (pv 0) T.cl Gk hr5 (passes_call (takes_of rfl rfl rfl rfl) (fun _ _ _ _ z => z)) (pa_cons (m_meth (pv 0) T.cl Ga hr1 passL (pa_cons pe_int pa_nil)) pa_nil)))))
      (pss_cons (ps_expr (m_meth (pv 0) T.cl Gn hr3 (passes_call (takes_of rfl rfl rfl rfl) (fun _ _ _ _ z => z)) (pa_cons (pe_cmpR op_gt (pe_callB call_len_seq (by rfl) T.len PySem.boot_len (pa_cons (pe_fld (pv 0) rfl) pa_nil)) pe_int (nomark _)) pa_nil)))
      (pss_cons (ps_while (passes_of rfl) (PW.pt (pw_and (pt_cmpR (op_eqD hr.units) (m_meth (pv 0) T.cl Ga hr1 passL (pa_cons pe_int pa_nil)) (pe_lst (pa_cons pe_str pa_nil)) (nomark _))
            (pw_and1 (pt_cmpR op_lt (pe_callB call_len_seq (by rfl) T.len PySem.boot_len (pa_cons (pe_fld (pv 0) rfl) pa_nil)) (pe_glob (v := .int 2) rfl cP ⟨_, rfl⟩) (nomark _)))))
          (pss_cons (ps_fldaug (pv 0) pe_int in_add)
          (pss_one (ps_expr (m_meth0 (pv 0) T.cl Gp hr (passes_call (takes_of rfl rfl rfl rfl) (fun _ _ _ _ z => z)))))))
      (pss_one (ps_expr (m_meth (pv 0) T.cl Gn hr3 (passes_call (takes_of rfl rfl rfl rfl) (fun _ _ _ _ z => z)) (pa_cons (pe_and (pe_cmpR op_gt (pe_callB call_len_seq (by rfl) T.len PySem.boot_len (pa_cons (pe_fld (pv 0) rfl) pa_nil)) pe_int (nomark _))
          (pe_one (pe_cmpR op_eq (pe_fld (pv 0) rfl) (pe_callB call_len_seq (by rfl) T.len PySem.boot_len (pa_cons (pe_fld (pv 0) rfl) pa_nil)) (nomark _)))) pa_nil)))))), ?_⟩
    have kk : match ((kindsM (S.ls.length + 1) S).bind fun S => S.need (decide (0 < S.kinds.length)) <| (partsM 3 S).bind fun S => S.need (decide (0 < S.parts) && decide (S.pos = S.ls.length)) (.ok S)) with
        | .ok S' => ∀ (A' : Adr) (H' : Hp), But (A.own r) H H' → (∀ q ∈ A'.own r, q ∈ A.own r ∨ H q = none) → RdAt C H' r A' S' → Fine S' → Q .non H'
        | .bad n => Bad cB E (A.own r) H n := kk
    refine ⟨fun m σ H' => ∃ S', σ = [some (.ref r)] ∧ But (A.own r) H H' ∧ RdAt C H' r A S' ∧ Fine S' ∧ S'.parts = 0 ∧ S'.ls.length - S'.pos + 1 ≤ m ∧ kindsM m S' = kindsM (S.ls.length + 1) S,
      ⟨_, S, rfl, .refl, R, S1, h0, by omega, rfl⟩, ?_⟩
    rintro m σ H3 ⟨S3, rfl, b3, R3, F3, p3, hm, hM⟩
    obtain ⟨dx3, ob3⟩ := R3.ob
    obtain ⟨m, rfl⟩ : ∃ m', m = m' + 1 := ⟨m - 1, by omega⟩
    rw [kindsM_eq] at hM
    refine ⟨_, rfl, r, dx3, _, rfl, ob3, noMeth (by decide +kernel), r, A, S3, 0, _, rfl, R3, F3, by decide, by decide, by decide +kernel, fun H4 s4 => ⟨_, rfl, ?_⟩⟩
    have R4 := R3.same s4
    obtain ⟨dx4, ob4⟩ := R4.ob
    have b4 : But (A.own r) H H4 := b3.trans (.of s4)
    refine ite2 (fun h1 => ?_) (fun h1 => ?_)
    · have h1 := of_decide_eq_true h1
      rw [if_pos h1] at hM
      refine ⟨_, fun _ _ z => z, ?_⟩
      have hne : S3.wordsAt 0 ≠ [] := fun z => by rw [z] at h1; simp at h1
      have pos3 := Rd.more hne
      refine ⟨_, rfl, r, dx4, _, rfl, ob4, noMeth (by decide +kernel), _, rfl, r, dx4, _, rfl, ob4, noMeth (by decide +kernel), r, A, S3, 0, rfl, R4, F3.p, by decide, by decide, fun a H5 s5 na ha => ?_⟩
      have R5 := R4.same s5
      have b5 : But (A.own r) H H5 := b4.trans (.of s5)
      refine ⟨r, a, A, S3, S3.wordsAt 0, rfl, R5, F3, ⟨ha, (F3.words 0).1, (F3.words 0).2⟩, na, pos3, ?_⟩
      cases hc : kindM S3 (S3.wordsAt 0) with
      | bad n =>
        rw [hc] at hM
        rw [← hM] at kk
        exact Bad.before kk b5
      | ok S6 =>
        rw [hc] at hM
        intro H6 b6 R6 F6 hp6 ls6
        have q6 : S6.parts = 0 := (kindM_parts hc).trans p3
        exact ⟨m, Nat.lt_succ_self _, S6, rfl, b5.trans b6, R6, F6, q6, by rw [ls6]; omega, hM⟩
    · have h1 : ¬ (S3.wordsAt 0).take 1 = [("kind" : Str)] := fun z => h1 (decide_eq_true z)
      rw [if_neg h1] at hM
      rw [← hM] at kk
      have kk : match (S3.need (decide (0 < S3.kinds.length)) <| (partsM 3 S3).bind fun S => S.need (decide (0 < S.parts) && decide (S.pos = S.ls.length)) (.ok S)) with
        | .ok S' => ∀ (A' : Adr) (H' : Hp), But (A.own r) H H' → (∀ q ∈ A'.own r, q ∈ A.own r ∨ H q = none) → RdAt C H' r A' S' → Fine S' → Q .non H'
        | .bad n => Bad cB E (A.own r) H n := kk
      rw [need_eq] at kk
      obtain ⟨kv, k41, k42⟩ := R4.kl
      have lk := k42.length
      refine ⟨_, rfl, r, dx4, _, rfl, ob4, noMeth (by decide +kernel), _, rfl, r, C, dx4, _, _, rfl, ob4, T.cl, T.kinds, rfl, A.kl, _, rfl, .inl (SqL.of k41), _, _, rfl, rfl, r, A, S3, _, rfl, R4, fun hb => ?_, fun hb => ?_⟩
      · have h0 : 0 < S3.kinds.length := by
          have := of_decide_eq_true hb
          omega
        rw [if_pos (decide_eq_true h0)] at kk
        have badIn : ∀ (n : Int), Bad cB E (A.own r) H n → ∀ (M : List Addr) (H' : Hp), But (A.own r) H H' → (∀ q ∈ M, q ∈ A.own r ∨ H q = none) → Bad cB E M H' n := fun n b M H' hb hm d H'' hd hk hx => b d H'' (hb.free d hd) (hb.grow hk hm) hx
        refine ⟨fun m σ H' => ∃ A' S', σ = [some (.ref r)] ∧ But (A.own r) H H' ∧ (∀ q ∈ A'.own r, q ∈ A.own r ∨ H q = none) ∧ RdAt C H' r A' S' ∧ Fine S' ∧ 3 - S'.parts ≤ m ∧ partsM m S' = partsM 3 S3,
          ⟨3, A, S3, rfl, b4, fun q hq => .inl hq, R4, F3, by omega, rfl⟩, ?_⟩
        rintro m σ H5 ⟨A5, S5, rfl, b5, o5, R5, F5, hm5, hM5⟩
        obtain ⟨dx5, ob5⟩ := R5.ob
        obtain ⟨m, rfl⟩ : ∃ m', m = m' + 1 := ⟨m - 1, by have := F5.q; omega⟩
        rw [partsM_eq] at hM5
        refine ⟨_, rfl, r, dx5, _, rfl, ob5, noMeth (by decide +kernel), r, A5, S5, 0, rfl, R5, F5.p, by decide, by decide, fun l H6 s6 nl hl => ?_⟩
        refine ⟨(by show 1 ≤ sizeLine; decide), fun z nz => ?_⟩
        have hz : upd H6 z (.lst [V.str "pass"]) z = some (.lst (wlist ["pass"])) := upd_same
        have sz := Same.new (o := .lst [V.str "pass"]) nz
        generalize upd H6 z (.lst [V.str "pass"]) = H7 at hz sz ⊢
        refine ⟨pstrs (S5.wordsAt 0), pstrs ["pass"], dp_strs (sz _ _ hl), dp_strs hz, shaped_strs (F5.words 0).2, shaped_strs (fun x hx => by rw [List.mem_singleton.mp hx]; decide +kernel), _, rfl, ?_⟩
        rw [eqv_strs]
        have b7 : But (A.own r) H H7 := (b5.trans (.of s6)).trans (.of sz)
        have R7 := (R5.same s6).same sz
        obtain ⟨dx7, ob7⟩ := R7.ob
        obtain ⟨pv, p71, p72⟩ := R7.pl
        have out : ¬ (S5.wordsAt 0 = [("pass" : Str)] ∧ S5.parts < 2) → match (S5.need (decide (0 < S5.parts) && decide (S5.pos = S5.ls.length)) (.ok S5)) with
            | .ok S' => ∀ (A' : Adr) (H' : Hp), But (A.own r) H H' → (∀ q ∈ A'.own r, q ∈ A.own r ∨ H q = none) → RdAt C H' r A' S' → Fine S' → Q .non H'
            | .bad n => Bad cB E (A.own r) H n := fun hn => by
          rw [if_neg hn] at hM5
          rw [← hM5] at kk
          exact kk
        refine ite2 (fun h6 => ?_) (fun h6 => ?_)
        · have h6 := of_decide_eq_true h6
          refine ⟨_, rfl, r, C, dx7, _, _, rfl, ob7, T.cl, T.parts, rfl, A5.pl, _, rfl, .inl (SqL.of p71), _, _, rfl, rfl, _, rfl, ?_⟩
          refine ite2 (fun h8 => ?_) (fun h8 => ?_)
          · have h8 : S5.parts < 2 := by have := of_decide_eq_true h8; omega
            rw [if_pos ⟨h6, h8⟩] at hM5
            have pos5 : S5.pos < S5.ls.length := Rd.more (d := 0) (by rw [h6]; simp)
            refine ⟨_, fun _ _ z => z, ?_⟩
            refine ⟨_, rfl, r, C, dx7, _, _, rfl, ob7, T.cl, T.at_, rfl, _, _, rfl, rfl, dx7, _, ob7, (by show 10 < 1000; decide), ?_⟩
            have R8 := R7.goTo (dx := dx7) (S5.pos + 1)
            generalize hH8 : upd H7 r _ = H8
            have R8 : RdAt C H8 r A5 S5.on := by rw [← hH8]; exact R8
            have b8 : But (A.own r) H H8 := by rw [← hH8]; exact b7.trans (.upd (by simp [Adr.own]))
            obtain ⟨dx8, ob8⟩ := R8.ob
            refine ⟨_, rfl, r, dx8, _, rfl, ob8, noMeth (by decide +kernel), r, A5, S5.on, rfl, R8, on_fine F5 pos5, h8, ?_⟩
            cases hp : partM S5.on with
            | bad n =>
              rw [hp] at hM5
              rw [← hM5] at kk
              exact badIn n kk _ _ b8 o5
            | ok S9 =>
              rw [hp] at hM5
              intro A9 H9 b9 o9 R9 F9 q9 l9
              have q9 : S9.parts = S5.parts + 1 := q9
              exact ⟨m, Nat.lt_succ_self _, A9, S9, rfl, b8.grow b9 o5, fun q hq => (o9 q hq).elim (fun z => o5 q z) fun z => .inr (b8.free q z), R9, F9, by omega, hM5⟩
          · have h8 : ¬ S5.parts < 2 := fun z => h8 (decide_eq_true (by omega))
            have kk := out (fun z => h8 z.2)
            rw [need_eq] at kk
            obtain ⟨lv, l71, l72⟩ := R7.ln
            have ll := l72.length
            refine ⟨_, rfl, r, dx7, _, rfl, ob7, noMeth (by decide +kernel), _, rfl, r, C, dx7, _, _, rfl, ob7, T.cl, T.parts, rfl, A5.pl, _, rfl, .inl (SqL.of p71), _, _, rfl, rfl, _, rfl, ?_⟩
            refine ite2 (fun h9 => ?_) (fun h9 => ?_)
            · have h9 : 0 < S5.parts := by have := of_decide_eq_true h9; omega
              refine ⟨_, rfl, r, C, dx7, _, _, rfl, ob7, T.cl, T.at_, rfl, _, rfl, r, C, dx7, _, _, rfl, ob7, T.cl, T.lines, rfl, A5.ln, _, rfl, .inl (SqL.of l71.1), rfl, r, A5, S5, _, rfl, R7, fun hb => ?_, fun hb => ?_⟩
              · have e : S5.pos = S5.ls.length := by have := V.int.inj (of_decide_eq_true hb); omega
                rw [if_pos (by rw [decide_eq_true h9, decide_eq_true e]; rfl)] at kk
                exact kk A5 _ b7 o5 R7 F5
              · have e : ¬ S5.pos = S5.ls.length := fun z => by
                  have := of_decide_eq_false hb
                  exact this (by rw [z, ll])
                rw [if_neg (fun z => e (of_decide_eq_true (Bool.and_eq_true_iff.mp z).2))] at kk
                exact badIn _ kk _ _ b7 o5
            · have h9 : ¬ 0 < S5.parts := fun z => h9 (decide_eq_true (by omega))
              refine ⟨r, A5, S5, false, rfl, R7, fun hb => Bool.noConfusion hb, fun _ => ?_⟩
              rw [if_neg (fun z => h9 (of_decide_eq_true (Bool.and_eq_true_iff.mp z).1))] at kk
              exact badIn _ kk _ _ b7 o5
        · have h6 : ¬ S5.wordsAt 0 = [("pass" : Str)] := fun z => h6 (decide_eq_true z)
          have kk := out (fun z => h6 z.1)
          rw [need_eq] at kk
          obtain ⟨lv, l71, l72⟩ := R7.ln
          have ll := l72.length
          refine ⟨_, rfl, r, dx7, _, rfl, ob7, noMeth (by decide +kernel), _, rfl, r, C, dx7, _, _, rfl, ob7, T.cl, T.parts, rfl, A5.pl, _, rfl, .inl (SqL.of p71), _, _, rfl, rfl, _, rfl, ?_⟩
          refine ite2 (fun h9 => ?_) (fun h9 => ?_)
          · have h9 : 0 < S5.parts := by have := of_decide_eq_true h9; omega
            refine ⟨_, rfl, r, C, dx7, _, _, rfl, ob7, T.cl, T.at_, rfl, _, rfl, r, C, dx7, _, _, rfl, ob7, T.cl, T.lines, rfl, A5.ln, _, rfl, .inl (SqL.of l71.1), rfl, r, A5, S5, _, rfl, R7, fun hb => ?_, fun hb => ?_⟩
            · have e : S5.pos = S5.ls.length := by have := V.int.inj (of_decide_eq_true hb); omega
              rw [if_pos (by rw [decide_eq_true h9, decide_eq_true e]; rfl)] at kk
              exact kk A5 _ b7 o5 R7 F5
            · have e : ¬ S5.pos = S5.ls.length := fun z => by
                have := of_decide_eq_false hb
                exact this (by rw [z, ll])
              rw [if_neg (fun z => e (of_decide_eq_true (Bool.and_eq_true_iff.mp z).2))] at kk
              exact badIn _ kk _ _ b7 o5
          · have h9 : ¬ 0 < S5.parts := fun z => h9 (decide_eq_true (by omega))
            refine ⟨r, A5, S5, false, rfl, R7, fun hb => Bool.noConfusion hb, fun _ => ?_⟩
            rw [if_neg (fun z => h9 (of_decide_eq_true (Bool.and_eq_true_iff.mp z).1))] at kk
            exact badIn _ kk _ _ b7 o5
      · have h0 : ¬ 0 < S3.kinds.length := fun z => by
          have := of_decide_eq_false hb
          omega
        rw [if_neg (fun z => h0 (of_decide_eq_true z))] at kk
        exact Bad.before kk b4
end
end K7
/-! part S1 -/
set_option Elab.async false
set_option linter.all false
set_option maxRecDepth 100000
set_option maxHeartbeats 2000000
/-! A def whose first statement is super().__init__(e). -/
namespace SupX
open PySem L2 PySem.Spec PyProof.Rows NdefX PySem.W
/-- facts of the text: the def at f with the words F, its cell __class__ that holds the class D, the method f2 that super() finds for instances of C -/
structure Facts (P : Program) (K : PySem.W.Frag) (mg : Str → Option Value) (f f2 C D : Addr) (F : NF) (fd : FuncData) (ps : List Str) : Prop where
  fn : ∃ (oc : Value) (od : Option Addr) (osl : Array (Option Value)) (doc pm ctv : Value), fd = F.fd doc pm ctv ∧ K.lookup f = some ⟨oc, od, .func fd, osl⟩
  cd : PySem.W.codeIn K (.ref F.c) F.qual = true
  cell : ∃ cc cl cld csl, F.cl = [(("__class__" : Str), cc)] ∧ K.lookup cc = some ⟨cl, cld, .cell (some (.ref D)), csl⟩
  code : ∃ ccl cdd vs ccs file tf, K.lookup F.c = some ⟨ccl, cdd, .fields vs, ccs⟩ ∧ vs[2]? = some (.str file tf) ∧ ((P.main.file : Str) == file) = true
  par : ∃ ar : Arg, (F.params.posonlyargs ++ F.params.args).head? = some ar ∧ ps[0]? = some ar.arg
  clsD : ∃ cdD, PySem.W.clsIn K D = some cdD
  sub : PySem.W.mroIn K C (.ref D) = some true
  mgS : mg "super" = none
  top : (P.main.scope.names.lookup ("super" : Str)).isSome = false
  glS : F.scope.names.lookup ("super" : Str) = some .globalImplicit
  frC : F.scope.names.lookup ("__class__" : Str) = some .free
  third : PySem.W.nsIn K cStatics "thirdparty.any" = some none
  meth : PySem.W.ks_superIn K C D "__init__" = some (some (.ref f2))
  ty : PySem.W.typeIn K (.ref f2) = some (.type "function")
  fi : PySem.W.fnIn K f2 = true
section
variable {P : Program} {w : World} {K : PySem.W.Frag} {mg : Str → Option Value} {base : Heap} {f f2 C D : Addr} {F : NF} {fd fd2 : FuncData} {N ps ps2 : List Str} {sp sp2 : Sp} {j k : Nat}
theorem call_q {M : Model} {A : Around} {E : Value → Shared → Prop} {s : Shared} {env : Env} {pos : Pos} {q g : Addr} {self : Value} {first : List Value} {e : Expr} {Q : Value → Shared → Prop} (hf : PySem.W.fnIn K g = true)
    (h : wpAny M A (spliced (backTo pos (starEach [e] env))) (fun vs s₁ => PySem.W.MethP K q g self s₁.heap ∧ wpAny M A (call (.ref q) (first ++ vs)) Q E s₁) E s) (he : starEach [e] env = (false, eval e env) :: starEach [] env := by rfl) :
    wpAny M A (callWith pos (.ref q) first (backTo pos (starEach [e] env)) []) Q E s := by
  rw [he] at h ⊢
  exact PySem.W.callWith_of rfl (PySem.W.keeps_M hf) (Calls.evalArgs_plain h)
theorem fn_super (T : Facts P K mg f f2 C D F fd ps) (S : NScope N ps ["__class__"] F.scope) (G : FnOk P w K mg base (L2.CX P w) j f2 fd2 ps2 sp2) (b2 : Binds K fd2 ps2 []) {p0 p1 ap pos epos : Pos} {e : Expr} {rest : List Stmt}
    {pl : Sem Bool} (he : ∀ env : Env, eval (.Call (.Attribute (.Call (.Name "super" p0) [] [] p1) "__init__" ap) [e] [] pos) env = (do
      let ov ← attributeBase (.Call (.Name "super" p0) [] [] p1) "__init__" env (eval (.Call (.Name "super" p0) [] [] p1) env)
      standAt ap.atName
      let (f, first) ← holding [ov] (getMethod ov "__init__" pl)
      callWith pos f first (backTo pos (starEach [e] env)) [])) (he2 : ∀ env : Env, starEach [e] env = (false, eval e env) :: starEach [] env) (he3 : ∀ env : Env, env.scope.kind = .function → interactive env = false ∧ swapsWith (.Call (.Attribute (.Call (.Name "super" p0) [] [] p1) "__init__" ap) [e] [] pos) none epos.line env = pure false)
    (hF : F.body = .Expr (.Call (.Attribute (.Call (.Name "super" p0) [] [] p1) "__init__" ap) [e] [] pos) epos :: rest) (len : ∀ vs H Q E, sp vs H Q E → vs.length = ps.length)
    (hbody : ∀ (A : Around) (outer : List Env) (s : Shared) (H : Hp) (vs : List V) (Q : VK) (E : XK), Room j (A.deeper (envF F f s.heap.objs.size)) → sp vs H Q E →
      ∃ (x dx : Addr) (fs : List (Str × V)) (ta : TA) (t : TS), vs[0]? = some (.ref x) ∧ H x = some (.ins C dx fs) ∧ PA (ncx (L2.CX P w) P w K mg base N F f A outer s H E) [e] ta ∧ PSs (ncx (L2.CX P w) P w K mg base N F f A outer s H E) rest t ∧
        ∀ q, H q = none → ta (startF N vs [some (.ref D)]) (upd H q (.met f2 x)) fun ys H2 => H2 q = some (.met f2 x) ∧
          sp2 (.ref x :: ys) H2 (fun _ H3 => t { nx := fun _ H' => Q .non H', rt := Q } (startF N vs [some (.ref D)]) H3) E0) :
    FnOk P w K mg base (L2.CX P w) (j + 1) f fd ps sp := by
  refine ⟨len, fun A outer s H args us vs Q E hr e0 hb r hsp => ?_⟩
  obtain ⟨oc, od, osl, doc, pm, ctv, rfl, lk⟩ := T.fn
  obtain ⟨cc, cl, cld, csl, hcl, lc⟩ := T.cell
  obtain ⟨ccl, cdd, cvs, ccs, file, tf, lcode, hfile1, hfile2⟩ := T.code
  obtain ⟨ar, ha1, ha2⟩ := T.par
  obtain ⟨cdD, hD⟩ := T.clsD
  have hl := len _ _ _ _ hsp
  have KX : K.In s.heap := e0.mod.kin.keeps fun b o e => (e0.bs b o e).1
  have lim : s.heap.NoLimit := e0.mod.nolimit.keeps fun b o e => (e0.bs b o e).1
  have CA : CellsAt F.cl ["__class__"] [some (.ref D)] s.heap H := by
    rw [hcl]
    refine ⟨rfl, fun y c h => ?_, fun x y c h1 h2 => ?_, fun i y h => ?_⟩
    · have hc : c = cc := by
        simp only [List.lookup] at h
        split at h
        · exact (Option.some.inj h).symm
        · cases h
      subst hc
      exact ⟨(e0.bs _ _ (e0.mod.kin _ _ lc)).2, _, _, KX _ _ lc, rfl⟩
    · have g : ∀ z, List.lookup z [(("__class__" : Str), cc)] = some c → z = "__class__" := fun z hz => by
        simp only [List.lookup] at hz
        split at hz
        · rename_i hh
          simpa using hh
        · cases hz
      rw [g x h1, g y h2]
    · cases i with
      | zero =>
        cases h
        refine ⟨cc, by simp [List.lookup], fun v hv => ?_⟩
        cases hv
        exact ⟨.ref D, rfl, _, KX _ _ lc, rfl⟩
      | succ i => simp at h
  refine codeAny_call_function hr.depth (KX _ _ lk) rfl S.co S.gen rfl (PySem.W.codeRec_of KX T.cd) (hb _ _ _ _ ?_)
  refine wpAny_newFunctionEnv S.nocell (fun ⟨n, _⟩ hy => S.par n (List.of_mem_zip hy).1) (fun h₁ hns hsb => ⟨lim.fresh _ hsb, ?_⟩) S.kind
  show codeAny _ _ (.func F.body (envF F f s.heap.objs.size)) _ _
  refine ks_codeAny_funcAt ?_
  have kp : ∀ b o, s.heap.get? b = some o → h₁.get? b = some o := fun b o e => hsb.extBut b o (Nat.ne_of_lt (Heap.lt_size e)) (Heap.get?_push_of_some _ e)
  obtain ⟨x, dx, fs, ta, t, hx, hH, pe, pr, q⟩ := hbody A outer s H vs Q E (hr.deeper _) hsp
  have I : L2.Inv (ncx (L2.CX P w) P w K mg base N F f A outer s H E) [] (startF N vs [some (.ref D)]) H { s with heap := h₁, toks := s.toks + (ps.zip us).length } := inv_startN S hr.hd e0 hl r CA hns kp
  generalize hs1 : ({ s with heap := h₁, toks := s.toks + (ps.zip us).length } : Shared) = s1 at I ⊢
  have hns1 : s1.heap.Ns s.heap.objs.size fun y => (ps.zip us).reverse.lookup y := by rw [← hs1]; exact hns
  rw [hF]
  have KX1 : K.In s1.heap := I.kIn
  obtain ⟨mb, hmb1, hmb2⟩ := I.mod.blt
  have hgl : s1.heap.Ns mainGlobals mg := I.mod.glob.keeps I.bk
  have hbl : s1.heap.Ns builtinsNs mb := hmb1.keeps I.bk
  obtain ⟨mA, O, rO, _, _, _⟩ := ins_get I.hok hH
  obtain ⟨ox, J, _⟩ := O.look
  obtain ⟨ux, hux, rux⟩ := r.get hx
  obtain rfl : ux = Value.ref x := rux
  have ndP : ps.Nodup := by
    have z := S.nd.sublist (List.take_sublist (ps.length + 1) N)
    have pre : N.take (ps.length + 1) = ps ++ [("__class__" : Str)] := S.pre
    rw [pre] at z
    exact (List.nodup_append.mp z).1
  have hself : (ps.zip us).reverse.lookup ar.arg = some (Value.ref x) := zip_look ndP ha2 hux
  have hka : F.scope.names.lookup ar.arg = some .local := S.par _ (List.mem_of_getElem? ha2)
  obtain ⟨oD, hD1, hD2⟩ : ∃ oD, s1.heap.get? D = some oD ∧ oD.data = .cls cdD := by
    unfold PySem.W.clsIn at hD
    split at hD
    · rename_i c d cd' sl ho
      cases hD
      exact ⟨_, KX1 _ _ ho, rfl⟩
    · cases hD
  obtain ⟨cdC, hC⟩ : ∃ cdC, PySem.W.clsIn K C = some cdC := by
    cases z : PySem.W.clsIn K C with
    | some c => exact ⟨c, rfl⟩
    | none =>
      have m := T.meth
      unfold PySem.W.ks_superIn at m
      rw [z] at m
      cases m
  have hmeth : PySem.W.alongIn K "__init__" ((cdC.mro.dropWhile (· != .ref D)).drop 1) = some (some (.ref f2)) := by
    have m := T.meth
    unfold PySem.W.ks_superIn at m
    rw [hC] at m
    exact m
  obtain ⟨of, hof, hofc⟩ : ∃ of, K.lookup f2 = some of ∧ of.cls = .type "function" := by
    have ht' : (K.lookup f2).map (·.cls) = some (.type "function") := T.ty
    cases z : K.lookup f2 with
    | none => rw [z] at ht'; cases ht'
    | some of => rw [z] at ht'; exact ⟨of, rfl, Option.some.inj ht'⟩
  obtain ⟨hp, g, d, tk, os⟩ := s1
  refine ks_wpAt_execs_cons (ks_wpAt_Expr_any (ks_wpAt_MethodCall (pl := pl) ?_ (he _)) (he3 _ S.kind).1 (he3 _ S.kind).2)
  refine ks_wpAt_super_base (env := envF F f s.heap.objs.size) T.glS T.frC rfl rfl (KX1 _ _ lk) rfl ha1 rfl (KX1 _ _ lcode) rfl hfile1 hfile2 T.top ?_
  refine ks_loadName_global S.kind T.glS (Calls.loadGlobal_builtin (env := envF F f s.heap.objs.size) hgl T.mgS hbl ((hmb2 _ (by decide)).trans PyProof.Rows.Boot.«super») ⟨rfl, ?_⟩)
  refine wpAny_loadName_free S.kind T.frC (by rw [show (envF F f s.heap.objs.size).cells = F.cl from rfl, hcl]; rfl) ⟨_, KX1 _ _ lc, rfl⟩ ?_
  refine wpAny_loadName_local S.kind hka hns1 hself ?_
  refine ks_wpAny_isType_cls hD1 hD2 ⟨rfl, ?_⟩
  refine ks_wpAny_call_super hD1 hD2 J.at_ J.cls (fun c ec => ?_) (PySem.W.looks_mroIn KX1 T.sub) fun h2 hso k2 => ?_
  · have := J.no
    unfold PySem.W.notCls at this
    rw [ec] at this
    exact Bool.noConfusion this
  have I2 := I.kept (h' := h2) (t' := tk) k2
  have KX2 : K.In h2 := I2.kIn
  refine ks_wpAny_getMethod_super hso (PySem.W.looks_opaque KX2 T.third) (l₀ := cdC.mro) (fun A Q E s k q => wpAny_bind ((PySem.W.looks_clsIn KX2 hC) A _ E s k (wpAny_pure q))) rfl KX2 hmeth (KX2 _ _ hof) hofc (ks_ne KX1 J hC) rfl ?_
  have nq : H h2.objs.size = none := I2.hok.fresh (Nat.le_refl _)
  have I3 := I2.laid (t' := tk + 1) (a := h2.objs.size) (o := .met f2 x) (fun b u z => Heap.get?_push_of_some _ z) (Nat.le_refl _) (show (h2.push (PySem.W.methodObj (.ref f2) (.ref x))).get? h2.objs.size = some (PySem.W.methodObj (.ref f2) (.ref x)) from Heap.get?_push_size h2 rfl)
  refine call_q T.fi (he := he2 _) (thn (pe.run pos [] _ _ _ _ I3 (q _ nq)) fun us4 s4 ⟨ys, H4, I4, r4, hm4, q4⟩ => ⟨met_P I4 hm4, ?_⟩)
  refine wpAny_call (PySem.W.method_call (met_P I4 hm4).1 (codeAny_mono (run_fnR (us := Value.ref x :: us4) (vs := V.ref x :: ys) ((G.raw b2 .nil).imp (fun vs H Q E h => by rw [List.append_nil]; exact h)) (hr.deeper _) passL I4 (.cons rfl r4) q4) fun rr s5 h5 => ?_))
  cases rr with
  | error er => exact h5
  | ok fl =>
    cases fl with
    | ret u =>
      obtain ⟨v5, H5, I5, rv5, q5⟩ := h5
      refine wpAt_of_wpAny (wpAny_mono (pr.run [] s5 _ H5 _ I5 q5) (fun fl s' hs => ?_) fun e s' hs => hs)
      have fin : ∀ {σ' : L2.St} {H' : Hp} {v : V} {u : Value}, L2.Inv (ncx (L2.CX P w) P w K mg base N F f A outer s H E) [] σ' H' s' → L2.RelV v u → Q v H' → CE outer P w H s Q u s' :=
        fun {σ' H' v u} J rv q => ⟨v, H', J.os, J.bare, J.base, J.hok, rv, q⟩
      cases fl with
      | ret u =>
        obtain ⟨v, σ', H', J, rv, q⟩ := hs
        exact fin J rv q
      | next =>
        obtain ⟨σ', H', J, q⟩ := hs
        exact fin (v := V.non) (u := Value.none) J rfl q
      | brk =>
        obtain ⟨_, _, _, q⟩ := hs
        exact False.elim q
      | cont =>
        obtain ⟨_, _, _, q⟩ := hs
        exact False.elim q
    | next => exact False.elim h5
    | brk => exact False.elim h5
    | cont => exact False.elim h5
end
end SupX
/-! part D3 -/
set_option Elab.async false
set_option linter.all false
set_option maxRecDepth 100000
set_option maxHeartbeats 2000000
namespace K7
open PySem L2 Rdr LcX NdefX
abbrev sRdInit : Stmt := inClass (top 21) 0
abbrev nfRd (cl : List (Str × Addr)) (c : Addr) : NF := ⟨"__init__", "ProgramReader.__init__", defArgs sRdInit, defBody sRdInit, defScope sRdInit, cl, c⟩
def spRdInit (C : Addr) : Sp := fun vs H Q _ => ∃ (r dx : Addr) (t : Str), vs = [.ref r, .str t] ∧ H r = some (.ins C dx []) ∧ Fits t ∧
  ∀ (A : Adr) (H' : Hp), But [r] H H' → RdAt C H' r A (start t) → (∀ q ∈ A.own r, q = r ∨ H q = none) → Q .non H'
theorem st_step {H : Hp} {r p : Addr} {x o ob : HO} (hr : H r = some x) (np : H p = none) : p ≠ r ∧ upd (upd H p o) r ob p = some o ∧ upd (upd H p o) r ob r = some ob ∧ But [r] H (upd (upd H p o) r ob) := by
  have e : p ≠ r := fun z => by rw [z, hr] at np; cases np
  exact ⟨e, by rw [upd_ne e, upd_same], upd_same, (But.of (Same.new np)).trans (.upd (by simp))⟩
section
variable {P : Program} {w : World} {K : PySem.W.Frag} {mg : Str → Option Value} {base : Heap} {C D cB fB : Addr} {fdB : FuncData}
theorem sc_rdInit : NScope ["self", "text", "__class__"] ["self", "text"] ["__class__"] (defScope sRdInit) := nscope_by (by decide +kernel)
theorem ok_rdInit {f f2 c : Addr} {cl : List (Str × Addr)} {fd fd2 : FuncData} (TS : SupX.Facts P K mg f f2 C D (nfRd cl c) fd ["self", "text"]) (T : RT K mg C cB fB fdB) (G : FnOk P w K mg base (L2.CX P w) 2 f2 fd2 ["self", "lines"] (spLnInit C)) (b2 : Binds K fd2 ["self", "lines"] []) :
    FnOk P w K mg base (L2.CX P w) 3 f fd ["self", "text"] (spRdInit C) := by
  refine SupX.fn_super TS sc_rdInit G b2 (fun _ => rfl) (fun _ => rfl) (fun _ h => ⟨by unfold interactive; rw [h]; rfl, rfl⟩) rfl (fun vs H Q E h => ?_) (fun A outer s H vs Q E hr h => ?_)
  · obtain ⟨r, dx, t, rfl, _⟩ := h
    rfl
  · obtain ⟨r, dx, t, rfl, hR, ft, k⟩ := h
    refine ⟨r, dx, [], _, _, rfl, hR, pa_cons (pe_split (pv 1) pe_str) pa_nil, pss_cons (ps_fld (pv 0) (pe_lst pa_nil) rfl) (pss_cons (ps_fld (pv 0) pe_dnewK rfl) (pss_cons (ps_fld (pv 0) pe_dnewK rfl) (pss_cons (ps_fld (pv 0) (pe_lst pa_nil) rfl)
      (pss_cons (ps_fld (pv 0) (pe_lst pa_nil) rfl) (pss_cons (ps_fld (pv 0) (pe_lst pa_nil) rfl) (pss_cons (ps_fld (pv 0) (pe_lst pa_nil) rfl) (pss_one (ps_fld (pv 0) (pe_tup pa_nil) rfl)))))))), fun q nq => ?_⟩
    have hz := ft.z
    refine ⟨_, rfl, ⟨_, rfl⟩, _, _, rfl, rfl, (by decide), (by have := le_line (n := 20002) (by omega); omega), fun p np => ⟨by rw [upd_ne (fun z => by rw [← z, upd_same] at np; cases np)]; exact upd_same, ?_⟩⟩
    refine ⟨r, dx, p, t, rfl, (Same.new np) _ _ ((Same.new nq) _ _ hR), upd_same, ft, fun ln lvs H3 b3 nln hr3 fx pr => ?_⟩
    have nln : H ln = none := (Same.new nq).free ((Same.new np).free nln)
    have b3 : But [r] H H3 := ((But.of (Same.new nq)).trans (But.of (Same.new np))).trans b3
    refine ⟨(by show 0 ≤ sizeLine; decide), fun kl nkl => ?_⟩
    obtain ⟨klr, kl1, kl2, bkl⟩ := st_step (o := .lst []) (ob := .ins C dx (putF "kinds" (.ref kl) _)) hr3 nkl
    refine ⟨_, rfl, r, C, dx, _, rfl, (Same.new nkl) _ _ hr3, T.cl, T.kinds, (by show 2 < 1000; decide), ?_⟩
    generalize hH4 : upd (upd H3 kl _) r _ = H4 at kl1 kl2 bkl ⊢
    intro cd ncd
    obtain ⟨cdr, cd1, cd2, bcd⟩ := st_step (o := .dK []) (ob := .ins C dx (putF "chains" (.ref cd) _)) kl2 ncd
    refine ⟨_, rfl, r, C, dx, _, rfl, (Same.new ncd) _ _ kl2, T.cl, T.chains, (by show 3 < 1000; decide), ?_⟩
    generalize hH5 : upd (upd H4 cd _) r _ = H5 at cd1 cd2 bcd ⊢
    intro fd nfd
    obtain ⟨fdr, fd1, fd2, bfd⟩ := st_step (o := .dK []) (ob := .ins C dx (putF "fields" (.ref fd) _)) cd2 nfd
    refine ⟨_, rfl, r, C, dx, _, rfl, (Same.new nfd) _ _ cd2, T.cl, T.fields, (by show 4 < 1000; decide), ?_⟩
    generalize hH6 : upd (upd H5 fd _) r _ = H6 at fd1 fd2 bfd ⊢
    refine ⟨(by show 0 ≤ sizeLine; decide), fun ll nll => ?_⟩
    obtain ⟨llr, ll1, ll2, bll⟩ := st_step (o := .lst []) (ob := .ins C dx (putF "labels" (.ref ll) _)) fd2 nll
    refine ⟨_, rfl, r, C, dx, _, rfl, (Same.new nll) _ _ fd2, T.cl, T.labels, (by show 5 < 1000; decide), ?_⟩
    generalize hH7 : upd (upd H6 ll _) r _ = H7 at ll1 ll2 bll ⊢
    refine ⟨(by show 0 ≤ sizeLine; decide), fun pl npl => ?_⟩
    obtain ⟨plr, pl1, pl2, bpl⟩ := st_step (o := .lst []) (ob := .ins C dx (putF "parts" (.ref pl) _)) ll2 npl
    refine ⟨_, rfl, r, C, dx, _, rfl, (Same.new npl) _ _ ll2, T.cl, T.parts, (by show 6 < 1000; decide), ?_⟩
    generalize hH8 : upd (upd H7 pl _) r _ = H8 at pl1 pl2 bpl ⊢
    refine ⟨(by show 0 ≤ sizeLine; decide), fun cl_ ncl_ => ?_⟩
    obtain ⟨cl_r, cl_1, cl_2, bcl_⟩ := st_step (o := .lst []) (ob := .ins C dx (putF "cells" (.ref cl_) _)) pl2 ncl_
    refine ⟨_, rfl, r, C, dx, _, rfl, (Same.new ncl_) _ _ pl2, T.cl, T.cells, (by show 7 < 1000; decide), ?_⟩
    generalize hH9 : upd (upd H8 cl_ _) r _ = H9 at cl_1 cl_2 bcl_ ⊢
    refine ⟨(by show 0 ≤ sizeLine; decide), fun wl nwl => ?_⟩
    obtain ⟨wlr, wl1, wl2, bwl⟩ := st_step (o := .lst []) (ob := .ins C dx (putF "worths" (.ref wl) _)) cl_2 nwl
    refine ⟨_, rfl, r, C, dx, _, rfl, (Same.new nwl) _ _ cl_2, T.cl, T.worths, (by show 8 < 1000; decide), ?_⟩
    generalize hH10 : upd (upd H9 wl _) r _ = H10 at wl1 wl2 bwl ⊢
    refine ⟨(by show 0 ≤ sizeLine; decide), fun nr nnr => ?_⟩
    obtain ⟨nrr, nr1, nr2, bnr⟩ := st_step (o := .tup []) (ob := .ins C dx (putF "near" (.ref nr) _)) wl2 nnr
    refine ⟨_, rfl, r, C, dx, _, rfl, (Same.new nnr) _ _ wl2, T.cl, T.near, (by show 9 < 1000; decide), ?_⟩
    generalize hH11 : upd (upd H10 nr _) r _ = H11 at nr1 nr2 bnr ⊢
    have mkl : ∀ q ∈ [r], kl ≠ q := fun q hq => by rw [List.mem_singleton.mp hq]; exact klr
    have hkl : kl ∉ [r] := by simpa using klr
    have fkl : H3 kl = none := (But.refl (M := [r])).free _ nkl
    have kkl : H11 kl = some (.lst []) := ((((((bcd.trans bfd).trans bll).trans bpl).trans bcl_).trans bwl).trans bnr).keep _ _ kl1 hkl
    have mcd : ∀ q ∈ [r], cd ≠ q := fun q hq => by rw [List.mem_singleton.mp hq]; exact cdr
    have hcd : cd ∉ [r] := by simpa using cdr
    have fcd : H3 cd = none := bkl.free _ ncd
    have kcd : H11 cd = some (.dK []) := (((((bfd.trans bll).trans bpl).trans bcl_).trans bwl).trans bnr).keep _ _ cd1 hcd
    have mfd : ∀ q ∈ [r], fd ≠ q := fun q hq => by rw [List.mem_singleton.mp hq]; exact fdr
    have hfd : fd ∉ [r] := by simpa using fdr
    have ffd : H3 fd = none := (bkl.trans bcd).free _ nfd
    have kfd : H11 fd = some (.dK []) := ((((bll.trans bpl).trans bcl_).trans bwl).trans bnr).keep _ _ fd1 hfd
    have mll : ∀ q ∈ [r], ll ≠ q := fun q hq => by rw [List.mem_singleton.mp hq]; exact llr
    have hll : ll ∉ [r] := by simpa using llr
    have fll : H3 ll = none := ((bkl.trans bcd).trans bfd).free _ nll
    have kll : H11 ll = some (.lst []) := (((bpl.trans bcl_).trans bwl).trans bnr).keep _ _ ll1 hll
    have mpl : ∀ q ∈ [r], pl ≠ q := fun q hq => by rw [List.mem_singleton.mp hq]; exact plr
    have hpl : pl ∉ [r] := by simpa using plr
    have fpl : H3 pl = none := (((bkl.trans bcd).trans bfd).trans bll).free _ npl
    have kpl : H11 pl = some (.lst []) := ((bcl_.trans bwl).trans bnr).keep _ _ pl1 hpl
    have mcl_ : ∀ q ∈ [r], cl_ ≠ q := fun q hq => by rw [List.mem_singleton.mp hq]; exact cl_r
    have hcl_ : cl_ ∉ [r] := by simpa using cl_r
    have fcl_ : H3 cl_ = none := ((((bkl.trans bcd).trans bfd).trans bll).trans bpl).free _ ncl_
    have kcl_ : H11 cl_ = some (.lst []) := (bwl.trans bnr).keep _ _ cl_1 hcl_
    have mwl : ∀ q ∈ [r], wl ≠ q := fun q hq => by rw [List.mem_singleton.mp hq]; exact wlr
    have hwl : wl ∉ [r] := by simpa using wlr
    have fwl : H3 wl = none := (((((bkl.trans bcd).trans bfd).trans bll).trans bpl).trans bcl_).free _ nwl
    have kwl : H11 wl = some (.lst []) := bnr.keep _ _ wl1 hwl
    have mnr : ∀ q ∈ [r], nr ≠ q := fun q hq => by rw [List.mem_singleton.mp hq]; exact nrr
    have hnr : nr ∉ [r] := by simpa using nrr
    have fnr : H3 nr = none := ((((((bkl.trans bcd).trans bfd).trans bll).trans bpl).trans bcl_).trans bwl).free _ nnr
    have knr : H11 nr = some (.tup []) := (But.refl (M := [r])).keep _ _ nr1 hnr
    have e_kl_cd : kl ≠ cd := ne_of_none ((But.refl (M := [r])).keep _ _ kl1 hkl) ncd
    have e_kl_fd : kl ≠ fd := ne_of_none (bcd.keep _ _ kl1 hkl) nfd
    have e_kl_ll : kl ≠ ll := ne_of_none ((bcd.trans bfd).keep _ _ kl1 hkl) nll
    have e_kl_pl : kl ≠ pl := ne_of_none (((bcd.trans bfd).trans bll).keep _ _ kl1 hkl) npl
    have e_kl_cl_ : kl ≠ cl_ := ne_of_none ((((bcd.trans bfd).trans bll).trans bpl).keep _ _ kl1 hkl) ncl_
    have e_kl_wl : kl ≠ wl := ne_of_none (((((bcd.trans bfd).trans bll).trans bpl).trans bcl_).keep _ _ kl1 hkl) nwl
    have e_kl_nr : kl ≠ nr := ne_of_none ((((((bcd.trans bfd).trans bll).trans bpl).trans bcl_).trans bwl).keep _ _ kl1 hkl) nnr
    have e_cd_fd : cd ≠ fd := ne_of_none ((But.refl (M := [r])).keep _ _ cd1 hcd) nfd
    have e_cd_ll : cd ≠ ll := ne_of_none (bfd.keep _ _ cd1 hcd) nll
    have e_cd_pl : cd ≠ pl := ne_of_none ((bfd.trans bll).keep _ _ cd1 hcd) npl
    have e_cd_cl_ : cd ≠ cl_ := ne_of_none (((bfd.trans bll).trans bpl).keep _ _ cd1 hcd) ncl_
    have e_cd_wl : cd ≠ wl := ne_of_none ((((bfd.trans bll).trans bpl).trans bcl_).keep _ _ cd1 hcd) nwl
    have e_cd_nr : cd ≠ nr := ne_of_none (((((bfd.trans bll).trans bpl).trans bcl_).trans bwl).keep _ _ cd1 hcd) nnr
    have e_fd_ll : fd ≠ ll := ne_of_none ((But.refl (M := [r])).keep _ _ fd1 hfd) nll
    have e_fd_pl : fd ≠ pl := ne_of_none (bll.keep _ _ fd1 hfd) npl
    have e_fd_cl_ : fd ≠ cl_ := ne_of_none ((bll.trans bpl).keep _ _ fd1 hfd) ncl_
    have e_fd_wl : fd ≠ wl := ne_of_none (((bll.trans bpl).trans bcl_).keep _ _ fd1 hfd) nwl
    have e_fd_nr : fd ≠ nr := ne_of_none ((((bll.trans bpl).trans bcl_).trans bwl).keep _ _ fd1 hfd) nnr
    have e_ll_pl : ll ≠ pl := ne_of_none ((But.refl (M := [r])).keep _ _ ll1 hll) npl
    have e_ll_cl_ : ll ≠ cl_ := ne_of_none (bpl.keep _ _ ll1 hll) ncl_
    have e_ll_wl : ll ≠ wl := ne_of_none ((bpl.trans bcl_).keep _ _ ll1 hll) nwl
    have e_ll_nr : ll ≠ nr := ne_of_none (((bpl.trans bcl_).trans bwl).keep _ _ ll1 hll) nnr
    have e_pl_cl_ : pl ≠ cl_ := ne_of_none ((But.refl (M := [r])).keep _ _ pl1 hpl) ncl_
    have e_pl_wl : pl ≠ wl := ne_of_none (bcl_.keep _ _ pl1 hpl) nwl
    have e_pl_nr : pl ≠ nr := ne_of_none ((bcl_.trans bwl).keep _ _ pl1 hpl) nnr
    have e_cl__wl : cl_ ≠ wl := ne_of_none ((But.refl (M := [r])).keep _ _ cl_1 hcl_) nwl
    have e_cl__nr : cl_ ≠ nr := ne_of_none (bwl.keep _ _ cl_1 hcl_) nnr
    have e_wl_nr : wl ≠ nr := ne_of_none ((But.refl (M := [r])).keep _ _ wl1 hwl) nnr
    have ball : But [r] H3 H11 := (((((((bkl.trans bcd).trans bfd).trans bll).trans bpl).trans bcl_).trans bwl).trans bnr)
    have own : ∀ q, q ∈ [r, kl, cd, fd, ll, pl, cl_, wl] → q = r ∨ H3 q = none := fun q hq => by
      simp only [List.mem_cons, List.not_mem_nil, or_false] at hq
      rcases hq with z | z | z | z | z | z | z | z
      · exact .inl z
      all_goals (right; rw [z]; assumption)
    have ca : Carry H3 H11 [r] [r, kl, cd, fd, ll, pl, cl_, wl] := ⟨fun a o hf => ⟨ball.keep _ _ hf.1 hf.2, fun z => (own a z).elim (fun e => hf.2 (by simp [e])) fun e => by rw [hf.1] at e; cases e⟩⟩
    refine k ⟨ln, kl, cd, fd, ll, pl, cl_, wl, nr, []⟩ H11 (b3.trans ball) ⟨⟨dx, nr2⟩, ?_, ⟨lvs, ca.fx _ _ fx, Pr.mono (fun _ _ => ca.ln) pr⟩, ⟨[], kkl, .nil⟩, ⟨[], kcd, .nil⟩, ⟨[], kfd, .nil⟩, kll, ⟨[], kpl, rfl⟩, kcl_, kwl, ⟨knr, ?_⟩, fun x hx => by cases hx⟩ fun q hq => (own q hq).imp id fun z => b3.free _ z
    · show [r, kl, cd, fd, ll, pl, cl_, wl].Nodup
      simp only [List.nodup_cons, List.mem_cons, not_or, List.not_mem_nil, not_false_eq_true, and_true, List.nodup_nil]
      exact ⟨⟨klr.symm, cdr.symm, fdr.symm, llr.symm, plr.symm, cl_r.symm, wlr.symm⟩, ⟨e_kl_cd, e_kl_fd, e_kl_ll, e_kl_pl, e_kl_cl_, e_kl_wl⟩, ⟨e_cd_fd, e_cd_ll, e_cd_pl, e_cd_cl_, e_cd_wl⟩, ⟨e_fd_ll, e_fd_pl, e_fd_cl_, e_fd_wl⟩, ⟨e_ll_pl, e_ll_cl_, e_ll_wl⟩, ⟨e_pl_cl_, e_pl_wl⟩, e_cl__wl⟩
    · show nr ∉ [r, kl, cd, fd, ll, pl, cl_, wl] ++ []
      simp only [List.append_nil, List.mem_cons, not_or, List.not_mem_nil, not_false_eq_true, and_true]
      exact ⟨nrr, e_kl_nr.symm, e_cd_nr.symm, e_fd_nr.symm, e_ll_nr.symm, e_pl_nr.symm, e_cl__nr.symm, e_wl_nr.symm⟩
end
end K7
/-! part D4 -/
set_option Elab.async false
set_option linter.all false
set_option maxRecDepth 100000
namespace K7
open PySem L2 Rdr LcX
abbrev sPgInit : Stmt := inClass (top 23) 0
def pgF (t : Str) (a b : Addr) (n : Int) (c : Addr) : List (Str × V) := [("text", .str t), ("kinds", .ref a), ("labels", .ref b), ("passes", .int n), ("parts", .ref c)]
/-- what is no string -/
def NotStr (K : PySem.W.Frag) (H : Hp) (v : V) : Prop := ∃ t, TyX K H v t ∧ PySem.W.kitOne K t (.type "str") = some false
def spPgInit (K : PySem.W.Frag) (CP cB : Addr) : Sp := fun vs H Q E => ∃ (x dx : Addr) (v : V), vs = [.ref x, v] ∧ H x = some (.ins CP dx []) ∧
  ((∃ t, v = .str t ∧ Fits t ∧ match (readM (start t)).isBad with
    | none => ∀ (a b : Addr) (n : Int) (c : Addr) (H' : Hp), But [x] H H' → H' x = some (.ins CP dx (pgF t a b n c)) → Q .non H'
    | some n => Bad cB E [x] H n) ∨ (NotStr K H v ∧ Bad cB E [x] H 0))
structure RG (K : PySem.W.Frag) (mg : Str → Option Value) (C CP fR : Addr) (fdR : FuncData) : Prop where
  cl : Cls K CP
  text : NoAttr K CP "text"
  kinds : NoAttr K CP "kinds"
  labels : NoAttr K CP "labels"
  passes : NoAttr K CP "passes"
  parts : NoAttr K CP "parts"
  mgR : mg "ProgramReader" = some (.ref C)
  MR : Mk K C fR
  bR : Binds K fdR ["self", "text"] []
section
variable {P : Program} {w : World} {K : PySem.W.Frag} {mg : Str → Option Value} {base : Heap} {C CP cB fB fR : Addr} {fdB fdR : FuncData}
theorem sc_pgInit : FnScope ["self", "text", "reader"] ["self", "text"] (defScope sPgInit) := ⟨rfl, rfl, rfl, by decide +kernel, rfl, by decide +kernel, by decide +kernel⟩
theorem ok_pgInit {f : Addr} {fd : FuncData} {k : Nat} (hk : 4 ≤ k) (F : Fun K "__init__" "Program.__init__" sPgInit f fd) (T : RT K mg C cB fB fdB) (TG : RG K mg C CP fR fdR) (GR : FnOk P w K mg base (L2.CX P w) 3 fR fdR ["self", "text"] (spRdInit C)) (Gr : MOk P w K mg base k C "read" (spRead C cB)) :
    FnOk P w K mg base (L2.CX P w) (k + 1) f fd ["self", "text"] (spPgInit K CP cB) := by
  have GB : FnOk P w K mg base (L2.CX P w) 1 fB fdB ["self", "line"] (spBadInit K) := ok_badInit T.FB
  refine F.okX sc_pgInit (fun vs H Q E h => ?_) (fun cdv A outer s H vs Q E hr h => ?_)
  · obtain ⟨x, dx, v, rfl, _⟩ := h
    rfl
  · obtain ⟨x, dx, v, rfl, hx, kk⟩ := h
    have hr3 : Room 4 _ := hr.mono (by omega)
    have hr2 : Room 2 _ := hr.mono (by omega)
    refine ⟨_, pss_cons (ps_if (pt_not (pt_val (pe_callB call_isi (by rfl) T.isinstance (by decide +kernel) (pa_cons (pv 1) (pa_cons (pe_bltn (v := .ty "str") (by rfl) T.str (by decide +kernel) rfl) pa_nil)))))
        (pss_one (ps_raise rfl (takes_of rfl rfl rfl rfl) (pmk_oex T.oB T.iB T.tB GB hr2 T.bB .nil passL rfl T.mgB (pa_cons pe_int pa_nil)))) pss_nil)
      (pss_cons (ps_set (i := 2) sc_pgInit.nd rfl (Or.inl rfl) (pe_make TG.MR GR hr3 rfl TG.mgR TG.bR .nil passL (pa_cons (pv 1) pa_nil)))
      (pss_cons (ps_expr (m_meth0 (pv 2) T.cl Gr hr (passes_call (takes_of rfl rfl rfl rfl) (fun _ _ _ _ z => z))))
      (pss_cons (ps_fld (pv 0) (pv 1) rfl)
      (pss_cons (ps_fld (pv 0) (pe_callTy call_tuple_of (by rfl) T.tuple (by decide +kernel) (pa_cons (pe_fld (pv 2) rfl) pa_nil)) rfl)
      (pss_cons (ps_fld (pv 0) (pe_callTy call_tuple_of (by rfl) T.tuple (by decide +kernel) (pa_cons (pe_fld (pv 2) rfl) pa_nil)) rfl)
      (pss_cons (ps_fld (pv 0) (pe_callB call_len_seq (by rfl) T.len PySem.boot_len (pa_cons (pe_fld (pv 2) rfl) pa_nil)) rfl)
      (pss_one (ps_fld (pv 0) (pe_callTy call_tuple_of (by rfl) T.tuple (by decide +kernel) (pa_cons (pe_fld (pv 2) rfl) pa_nil)) rfl)))))))), ?_⟩
    rcases kk with ⟨t, rfl, ft, kk⟩ | ⟨⟨tt, ty, ki⟩, kk⟩
    · refine ⟨_, rfl, _, .ty "str", .type "str", .type "str", true, rfl, .ty _, .base (.str _), kit_ty (by decide +kernel), _, rfl, ?_⟩
      refine iteF ?_
      refine ⟨_, rfl, fun r dr nr ndr ner => ⟨r, dr, t, rfl, upd_same, ft, fun A H1 b1 R1 o1 => ⟨rfl, ?_⟩⟩⟩
      have s1 : Same H H1 := fun b o hb => by
        have br : b ≠ r := ne_of_none hb nr
        have bd : b ≠ dr := ne_of_none hb ndr
        exact b1.keep _ _ (by rw [upd_ne br, upd_ne bd]; exact hb) (by simpa using br)
      have o1 : ∀ q ∈ A.own r, H q = none := fun q hq => (o1 q hq).elim (fun e => by rw [e]; exact nr) fun z => upd_none (upd_none z)
      obtain ⟨dx1, ob1⟩ := R1.ob
      refine ⟨_, rfl, r, dx1, _, rfl, ob1, noMeth (by decide +kernel), r, A, start t, rfl, R1, start_fine ft, rfl, ?_⟩
      cases e : readM (start t) with
      | bad n =>
        rw [e] at kk
        have kk : Bad cB E [x] H n := kk
        exact fun d H' hd hb hx' => kk d H' (s1.free hd) ⟨fun b o h _ => hb.keep _ _ (s1 _ _ h) fun z => (by rw [o1 b z] at h; cases h), fun b h => s1.free (hb.free b h)⟩ hx'
      | ok S' =>
        rw [e] at kk
        have kk : ∀ (a b : Addr) (n : Int) (c : Addr) (H' : Hp), But [x] H H' → H' x = some (.ins CP dx (pgF t a b n c)) → Q .non H' := kk
        intro A' H2 b2 o2 R2 F2
        have o2 : ∀ q ∈ A'.own r, H q = none := fun q hq => (o2 q hq).elim (fun z => o1 q z) fun z => s1.free z
        have ox : ∀ q ∈ A'.own r, q ≠ x := fun q hq z => by have := o2 q hq; rw [z, hx] at this; cases this
        have s2 : Same H H2 := fun b o h => b2.keep _ _ (s1 _ _ h) fun z => by rw [o1 b z] at h; cases h
        have hx2 := s2 _ _ hx
        obtain ⟨dx2, ob2⟩ := R2.ob
        obtain ⟨kv, k2, _⟩ := R2.kl
        have l2 := R2.ll
        obtain ⟨pv, p2, _⟩ := R2.pl
        have r_x : r ≠ x := ox r (by simp [Adr.own])
        have kl_x : A'.kl ≠ x := ox _ (by simp [Adr.own])
        have ll_x : A'.ll ≠ x := ox _ (by simp [Adr.own])
        have pl_x : A'.pl ≠ x := ox _ (by simp [Adr.own])
        -- text
        refine ⟨_, rfl, _, rfl, x, CP, dx, [], rfl, hx2, TG.cl, TG.text, (by show 0 < 1000; decide), ?_⟩
        have b3 : But [x] H (upd H2 x (.ins CP dx (putF "text" (.str t) []))) := (But.of s2).trans (.upd (by simp))
        have ob3 : upd H2 x (.ins CP dx (putF "text" (.str t) [])) r = _ := (upd_ne r_x).trans ob2
        have k3 : upd H2 x (.ins CP dx (putF "text" (.str t) [])) A'.kl = _ := (upd_ne kl_x).trans k2
        have l3 : upd H2 x (.ins CP dx (putF "text" (.str t) [])) A'.ll = _ := (upd_ne ll_x).trans l2
        have p3 : upd H2 x (.ins CP dx (putF "text" (.str t) [])) A'.pl = _ := (upd_ne pl_x).trans p2
        have hx3 : upd H2 x (.ins CP dx (putF "text" (.str t) [])) x = _ := upd_same
        generalize upd H2 x _ = H3 at b3 ob3 k3 l3 p3 hx3 ⊢
        -- kinds
        refine ⟨_, rfl, r, C, dx2, _, _, rfl, ob3, T.cl, T.kinds, rfl, A'.kl, _, rfl, .inl ⟨SqL.of k3, fun a na => ⟨_, rfl, x, CP, dx, _, rfl, (Same.new na) _ _ hx3, TG.cl, TG.kinds, (by show 1 < 1000; decide), ?_⟩⟩⟩
        have sa := Same.new (o := .tup kv) na
        have b4 := (b3.trans (.of sa)).trans (But.upd (H := upd H3 a (.tup kv)) (o := .ins CP dx (putF "kinds" (.ref a) (putF "text" (.str t) []))) (List.mem_singleton.mpr (rfl : x = x)))
        have ob4 := (upd_ne (o := .ins CP dx (putF "kinds" (.ref a) (putF "text" (.str t) []))) r_x).trans (sa _ _ ob3)
        have l4 := (upd_ne (o := .ins CP dx (putF "kinds" (.ref a) (putF "text" (.str t) []))) ll_x).trans (sa _ _ l3)
        have p4 := (upd_ne (o := .ins CP dx (putF "kinds" (.ref a) (putF "text" (.str t) []))) pl_x).trans (sa _ _ p3)
        have hx4 := upd_same (H := upd H3 a (.tup kv)) (a := x) (o := .ins CP dx (putF "kinds" (.ref a) (putF "text" (.str t) [])))
        generalize upd (upd H3 a (.tup kv)) x _ = H4 at b4 ob4 l4 p4 hx4 ⊢
        -- labels
        refine ⟨_, rfl, r, C, dx2, _, _, rfl, ob4, T.cl, T.labels, rfl, A'.ll, _, rfl, .inl ⟨SqL.of l4, fun b nb => ⟨_, rfl, x, CP, dx, _, rfl, (Same.new nb) _ _ hx4, TG.cl, TG.labels, (by show 2 < 1000; decide), ?_⟩⟩⟩
        have sb := Same.new (o := .tup (wlist S'.labels)) nb
        have b5 := (b4.trans (.of sb)).trans (But.upd (H := upd H4 b (.tup (wlist S'.labels))) (o := .ins CP dx (putF "labels" (.ref b) (putF "kinds" (.ref a) (putF "text" (.str t) [])))) (List.mem_singleton.mpr (rfl : x = x)))
        have ob5 := (upd_ne (o := .ins CP dx (putF "labels" (.ref b) (putF "kinds" (.ref a) (putF "text" (.str t) [])))) r_x).trans (sb _ _ ob4)
        have p5 := (upd_ne (o := .ins CP dx (putF "labels" (.ref b) (putF "kinds" (.ref a) (putF "text" (.str t) [])))) pl_x).trans (sb _ _ p4)
        have hx5 := upd_same (H := upd H4 b (.tup (wlist S'.labels))) (a := x) (o := .ins CP dx (putF "labels" (.ref b) (putF "kinds" (.ref a) (putF "text" (.str t) []))))
        generalize upd (upd H4 b (.tup (wlist S'.labels))) x _ = H5 at b5 ob5 p5 hx5 ⊢
        -- passes
        refine ⟨_, rfl, r, C, dx2, _, _, rfl, ob5, T.cl, T.parts, rfl, A'.pl, _, rfl, .inl (SqL.of p5), _, rfl, x, CP, dx, _, rfl, hx5, TG.cl, TG.passes, (by show 3 < 1000; decide), ?_⟩
        generalize (pv.length : Int) = n
        have b6 := b5.trans (But.upd (H := H5) (o := .ins CP dx (putF "passes" (.int n) (putF "labels" (.ref b) (putF "kinds" (.ref a) (putF "text" (.str t) []))))) (List.mem_singleton.mpr (rfl : x = x)))
        have ob6 := (upd_ne (o := .ins CP dx (putF "passes" (.int n) (putF "labels" (.ref b) (putF "kinds" (.ref a) (putF "text" (.str t) []))))) r_x).trans ob5
        have p6 := (upd_ne (o := .ins CP dx (putF "passes" (.int n) (putF "labels" (.ref b) (putF "kinds" (.ref a) (putF "text" (.str t) []))))) pl_x).trans p5
        have hx6 := upd_same (H := H5) (a := x) (o := .ins CP dx (putF "passes" (.int n) (putF "labels" (.ref b) (putF "kinds" (.ref a) (putF "text" (.str t) [])))))
        generalize upd H5 x _ = H6 at b6 ob6 p6 hx6 ⊢
        -- parts
        refine ⟨_, rfl, r, C, dx2, _, _, rfl, ob6, T.cl, T.parts, rfl, A'.pl, _, rfl, .inl ⟨SqL.of p6, fun c nc => ⟨_, rfl, x, CP, dx, _, rfl, (Same.new nc) _ _ hx6, TG.cl, TG.parts, (by show 4 < 1000; decide), ?_⟩⟩⟩
        exact kk a b n c _ ((b6.trans (.of (Same.new nc))).trans (.upd (by simp))) upd_same
    · refine ⟨_, rfl, _, .ty "str", tt, .type "str", false, rfl, .ty _, ty, ki, _, rfl, ?_⟩
      refine iteT ?_
      refine ⟨(by show 1 ≤ 1000; decide), fun a na => ?_⟩
      refine ⟨a, cB, _, rfl, T.oB, T.nB, upd_same, fun d nd hd => ⟨rfl, d, _, upd_same, by rw [upd_ne hd]; exact upd_same, ?_, ?_⟩⟩
      · rwa [upd_ne hd] at nd
      · have nd' : H d = none := by rwa [upd_ne hd] at nd
        refine kk d _ nd' ⟨fun b o hb _ => ?_, fun b hb => ?_⟩ upd_same
        · have ba : b ≠ a := ne_of_none hb na
          have bd : b ≠ d := ne_of_none hb nd'
          rw [upd_ne bd, del_ne ba, upd_ne ba, upd_ne bd, upd_ne ba]
          exact hb
        · by_cases ba : b = a
          · rw [ba]; exact na
          · by_cases bd : b = d
            · rw [bd]; exact nd'
            · rwa [upd_ne bd, del_ne ba, upd_ne ba, upd_ne bd, upd_ne ba] at hb
end
end K7
/-! part S2 -/
set_option Elab.async false
set_option linter.all false
set_option maxRecDepth 100000
set_option maxHeartbeats 2000000
/-! == and != of an instance whose class has an own == alone, beside any value. -/
namespace NeX
open PySem PySem.Spec PyProof.Rows
section
variable {M : Model} {prog : Program} {w : World} {A : Around} {E : Value → Shared → Prop} {s : Shared} {K : PySem.W.Frag} {x C f : Addr} {ox : Obj} {od : Option Obj} {b tb : Value}
theorem ifBound_objNe {args : List Value} {Q : Option Value → Shared → Prop} (X : K.In s.heap) (I : PySem.W.InstAt s.heap x ox C od) (hs : PySem.W.findIn K (.ref C) "__ne__" = some (some (.builtin "object.__ne__")))
    (h : wpAny M A (call (.builtin "object.__ne__") (.ref x :: args)) (fun v => Q (some v)) E s) : wpAny M A (callSpecialIfBound? (.ref x) "__ne__" args) Q E s := by
  simp only [callSpecialIfBound?, bindSpecialIfBound?]
  refine wpAny_holding (wpAny_bind (wpAny_bind (wpAny_bind (I.type.here ((PySem.W.looks_findIn X hs).here ?_)))))
  refine wpAny_bind (wpAny_askSetting (wpAny_ite ?_))
  have fin : wpAny M A (call (.builtin "object.__ne__") ([.ref x] ++ args) >>= fun v => pure (some v)) Q E s := wpAny_bind (wpAny_mono h (fun v s' h' => wpAny_pure h') fun _ _ h' => h')
  split
  · exact wpAny_bind (wpAny_of_eq (F.cmp_object.ne.bind _) (wpAny_pure (by exact fin)))
  · exact wpAny_tryCatch (wpAny_bind (wpAny_of_eq (F.cmp_object.ne.bind _) (wpAny_pure (by exact fin))))
theorem entry_ne {Q : Fin → Shared → Prop} (X : K.In s.heap) (I : PySem.W.InstAt s.heap x ox C od) (hu : A.units < cLine) (hs : PySem.W.findIn K (.ref C) "__eq__" = some (some (.ref f))) (hf : PySem.W.isFn K (.ref f) = true)
    (hcall : wpAny (model prog w) A (call (.ref f) [.ref x, b]) (fun v s' => ∃ r, v = .bool r ∧ Q (.done (.ret (.bool (!r)))) s') E s) : wpAny (model prog w) A (Builtin.«object.__ne__» ⟨[.ref x, b], []⟩) Q E s := by
  unfold Builtin.«object.__ne__»
  repeat (first
    | with_reducible refine wpAny_cRoomFor hu ?_
    | (refine wpAny_bind (m := callSpecialIfBound? (.ref x) (Str.ofString "__eq__") [b])
        (PySem.W.ifBound_K X I hs hf (wpAny_mono hcall (fun v s' hr => by
          obtain ⟨r, rfl, hq⟩ := hr
          repeat (first | exact hq | exact wpAny_pure hq | exact wpAny_truthy_bool hq | (refine wpAny_bind (m := truthy (.bool _)) (wpAny_truthy_bool ?_)) | wp_step)) fun _ _ e => e)))
    | wp_step)
theorem call_objNe {Q : Value → Shared → Prop} (X : K.In s.heap) (I : PySem.W.InstAt s.heap x ox C od) (hu : A.in1.units < cLine) (hm : PySem.W.mroIn K C (.type "object") = some true) (hs : PySem.W.findIn K (.ref C) "__eq__" = some (some (.ref f))) (hf : PySem.W.isFn K (.ref f) = true)
    (hcall : wpAny (model prog w) A.in1 (call (.ref f) [.ref x, b]) (fun v s' => ∃ r, v = .bool r ∧ Q (.bool (!r)) s') E s) : wpAny (model prog w) A (call (.builtin "object.__ne__") [.ref x, b]) Q E s := by
  refine wpAny_call (codeAny_call_builtin F.cmp_object.ne.plain F.cmpEntry_ne (PySem.W.check_slot F.cmpKind_ne F.cmpSplit_ne (I.type.andThen (PySem.W.looks_mroIn X hm)) (F.cmpArgs_ne _ _) (entry_ne (A := A.in1) X I hu hs hf (wpAny_mono hcall (fun v s' z => ?_) fun _ _ e => e))))
  obtain ⟨r, e, q⟩ := z
  exact ⟨r, e, q⟩
theorem cmp_ne {Q : Value → Shared → Prop} (hu : A.units + 1 < cLine) (X : K.In s.heap) (I : PySem.W.InstAt s.heap x ox C od) (hb : PySem.W.Looks (model prog w) s.heap (typeOf b) tb) (hn : PySem.W.notFirst K C tb = true) (hm : PySem.W.mroIn K C (.type "object") = some true)
    (hse : PySem.W.findIn K (.ref C) "__eq__" = some (some (.ref f))) (hsn : PySem.W.findIn K (.ref C) "__ne__" = some (some (.builtin "object.__ne__"))) (hf : PySem.W.isFn K (.ref f) = true)
    (h : wpAny (model prog w) A.in1 (call (.ref f) [.ref x, b]) (fun v s' => ∃ r, v = .bool r ∧ Q (.bool (!r)) s') E s) : wpAny (model prog w) A (richCompare .NotEq (.ref x) b) Q E s := by
  have one : wpAny (model prog w) A (tryCompare (.ref x) "__ne__" b) (fun r s' => ∃ v, r = some v ∧ Q v s') E s := by
    unfold tryCompare
    refine wpAny_bind (ifBound_objNe X I hsn (call_objNe X I (by exact hu) hm hse hf (wpAny_mono h (fun v s' hv => ?_) fun _ _ e => e)))
    obtain ⟨r, e, q⟩ := hv
    exact ⟨r, e, wpAny_pure ⟨_, rfl, q⟩⟩
  simp only [richCompare, cmpInfo_NotEq, oneThing_ref]
  refine wpAny_holding (wpAny_bind (wpAny_cRoomFor (Nat.lt_of_succ_lt hu) ?_))
  refine wpAny_bind (I.type.here (wpAny_bind (hb.here ?_)))
  split
  · rename_i q
    have e : PySem.W.subIn K tb (.ref C) = some false := by
      rcases Bool.or_eq_true_iff.mp hn with e | e
      · rw [beq_iff_eq.mp e] at q; simp at q
      · exact beq_iff_eq.mp e
    refine wpAny_bind ((PySem.W.looks_subIn X e).here ?_)
    simp only [Bool.false_eq_true, if_false]
    refine wpAny_bind (wpAny_mono one (fun r s' z => ?_) fun _ _ e => e)
    obtain ⟨v, rfl, hq⟩ := z
    exact wpAny_pure hq
  · refine wpAny_bind (wpAny_pure ?_)
    simp only [Bool.false_eq_true, if_false]
    refine wpAny_bind (wpAny_mono one (fun r s' z => ?_) fun _ _ e => e)
    obtain ⟨v, rfl, hq⟩ := z
    exact wpAny_pure hq
end
end NeX
namespace NeX
open PySem PySem.Spec PyProof.Rows L2
section
variable {X : Cx} {n : Nat} {CX : CXT} {C f : Addr} {fd : FuncData} {ps : List Str} {sp : Sp} {E : XK}
/-- x == y, x of the class C with an own ==, y any value -/
def rOwn (K : PySem.W.Frag) (C : Addr) (sp : Sp) (g : Bool → Bool) (E : XK) : R2 := fun x y H Q => ∃ (a dx : Addr) (fs : List (Str × V)) (t : Value), x = .ref a ∧ H a = some (.ins C dx fs) ∧ TyX K H y t ∧ PySem.W.notFirst K C t = true ∧
  sp [.ref a, y] H (fun v H' => ∃ b, v = .bl b ∧ Q (.bl (g b)) H') E
theorem env_at {pins : List (Addr × Obj)} {σ : L2.St} {H : Hp} {s : Shared} (I : Inv X pins σ H s) {A : Around} (hf : A.frames = X.A.frames) : Env0 X.prog X.w X.K X.mg X.base A X.stack s H := by
  have e := I.env0
  exact ⟨by rw [hf]; exact e.frames, e.mod, e.bs, e.bsz, e.funs, e.frf, e.hok, e.bare⟩
theorem run_own (F : FnOk X.prog X.w X.K X.mg X.base CX n f fd ps sp) (hb : Binds X.K fd ps []) (hx : Passes CX X E) {A : Around} (hr : Room n A) (hfr : A.frames = X.A.frames) {pins : List (Addr × Obj)} {σ : L2.St} {H : Hp} {s : Shared} (I : Inv X pins σ H s)
    {a : Addr} {y : V} {u : Value} (ry : RelV y u) {Q : Bool → Hp → Prop} (h : sp [.ref a, y] H (fun v H' => ∃ b, v = .bl b ∧ Q b H') E) :
    wpAny (model X.prog X.w) A (call (.ref f) [.ref a, u]) (fun v s' => ∃ b H', v = .bool b ∧ Inv X pins σ H' s' ∧ Q b H') X.xe s := by
  have hl := F.len _ _ _ _ h
  have r2 : Vals [V.ref a, y] [Value.ref a, u] := .cons rfl (.cons ry .nil)
  refine wpAny_call (codeAny_mono (F.run A X.stack s H ⟨[.ref a, u], []⟩ [.ref a, u] [.ref a, y] _ E hr (env_at I hfr) (by
    have := hb s [.ref a, u] I.kIn (by simpa using hl)
    simpa using this) r2 h) fun r s' hq => ?_)
  cases r with
  | error e => exact hx pins σ H s e s' I hq
  | ok fl =>
    cases fl with
    | ret w =>
      obtain ⟨z, H', I', rz, b, ez, q⟩ := I.after hq
      subst ez
      cases rz
      exact ⟨b, H', rfl, I', q⟩
    | next => exact False.elim hq
    | brk => exact False.elim hq
    | cont => exact False.elim hq
theorem op_eqO (F : FnOk X.prog X.w X.K X.mg X.base CX n f fd ps sp) (hs : PySem.W.findIn X.K (.ref C) "__eq__" = some (some (.ref f))) (hf : PySem.W.isFn X.K (.ref f) = true) (hb : Binds X.K fd ps []) (hx : Passes CX X E) (hr : Room n X.A) :
    OpR X (compareOp .Eq) (rOwn X.K C sp id E) := by
  intro pins s σ H x y v u Q I rx ry hq
  obtain ⟨a, dx, fs, t, rfl, ha, ty, nf, q⟩ := hq
  cases rx
  obtain ⟨mA, J, _⟩ := ins_get I.hok ha
  obtain ⟨od, J, _⟩ := J.look
  obtain ⟨m, hF⟩ := I.fr
  obtain ⟨P, Z, p, _⟩ := kit_of I ry ty
  show wpAny (model X.prog X.w) X.A (richCompare .Eq (.ref a) u) (EP X pins σ Q) X.xe s
  refine PySem.W.cmp_K (op := .Eq) (tb := t) hr.units0 hF I.ok.mod.kin J (Z.ty _ _ I.kIn p) nf hs hf (wpAny_mono (run_own F hb hx hr rfl I ry q) (fun v s' z => ?_) fun _ _ e => e)
  obtain ⟨b, H', rfl, I', q⟩ := z
  exact ⟨.bl b, H', I', rfl, q⟩
theorem op_neO (F : FnOk X.prog X.w X.K X.mg X.base CX n f fd ps sp) (hs : PySem.W.findIn X.K (.ref C) "__eq__" = some (some (.ref f))) (hsn : PySem.W.findIn X.K (.ref C) "__ne__" = some (some (.builtin "object.__ne__"))) (hm : PySem.W.mroIn X.K C (.type "object") = some true)
    (hf : PySem.W.isFn X.K (.ref f) = true) (hb : Binds X.K fd ps []) (hx : Passes CX X E) (hr : Room (n + 1) X.A) : OpR X (compareOp .NotEq) (rOwn X.K C sp (!·) E) := by
  intro pins s σ H x y v u Q I rx ry hq
  obtain ⟨a, dx, fs, t, rfl, ha, ty, nf, q⟩ := hq
  cases rx
  obtain ⟨mA, J, _⟩ := ins_get I.hok ha
  obtain ⟨od, J, _⟩ := J.look
  obtain ⟨P, Z, p, _⟩ := kit_of I ry ty
  show wpAny (model X.prog X.w) X.A (richCompare .NotEq (.ref a) u) (EP X pins σ Q) X.xe s
  refine cmp_ne (tb := t) (by have := hr.units; omega) I.kIn J (Z.ty _ _ I.kIn p) nf hm hs hsn hf (wpAny_mono (run_own F hb hx hr.in1 rfl I ry q) (fun v s' z => ?_) fun _ _ e => e)
  obtain ⟨b, H', rfl, I', q⟩ := z
  exact ⟨b, rfl, .bl (!b), H', I', rfl, q⟩
end
end NeX
/-! part D5 -/
set_option Elab.async false
set_option linter.all false
set_option maxRecDepth 100000
namespace K7
open PySem L2 Rdr LcX
abbrev sPgEq : Stmt := inClass (top 23) 1
/-- a Program of the text t -/
def PgAt (CP : Addr) (H : Hp) (x : Addr) (t : Str) : Prop := ∃ (dx a b : Addr) (n : Int) (c : Addr), H x = some (.ins CP dx (pgF t a b n c))
def spPgEq (K : PySem.W.Frag) (CP : Addr) : Sp := fun vs H Q _ => ∃ (x : Addr) (t : Str) (y : V) (tt : Value) (b : Bool), vs = [.ref x, y] ∧ PgAt CP H x t ∧ TyX K H y tt ∧ PySem.W.kitOne K tt (.ref CP) = some b ∧
  (b = true → ∃ (z : Addr) (u : Str), y = .ref z ∧ PgAt CP H z u ∧ Q (.bl (decide (t = u))) H) ∧ (b = false → Q (.bl false) H)
section
variable {P : Program} {w : World} {K : PySem.W.Frag} {mg : Str → Option Value} {base : Heap} {C CP cB fB fR : Addr} {fdB fdR : FuncData}
theorem sc_pgEq : FnScope ["self", "other"] ["self", "other"] (defScope sPgEq) := ⟨rfl, rfl, rfl, by decide +kernel, rfl, by decide +kernel, by decide +kernel⟩
theorem ok_pgEq {f : Addr} {fd : FuncData} (F : Fun K "__eq__" "Program.__eq__" sPgEq f fd) (T : RT K mg C cB fB fdB) (TG : RG K mg C CP fR fdR) (mgP : mg "Program" = some (.ref CP)) : FnOk P w K mg base (L2.CX P w) 1 f fd ["self", "other"] (spPgEq K CP) := by
  refine F.okX sc_pgEq (fun vs H Q E h => ?_) (fun cdv A outer s H vs Q E hr h => ?_)
  · obtain ⟨x, t, y, tt, b, rfl, _⟩ := h
    rfl
  · obtain ⟨x, t, y, tt, b, rfl, ⟨dx, a1, a2, a3, a4, hx⟩, ty, ki, k1, k2⟩ := h
    refine ⟨_, pss_one (ps_ret (pe_and (pe_callB call_isi (by rfl) T.isinstance (by decide +kernel) (pa_cons (pv 1) (pa_cons (pe_glob (v := .ref CP) rfl mgP rfl) pa_nil))) (pe_one (pe_cmpR op_eq (pe_fld (pv 0) rfl) (pe_fld (pv 1) rfl) (nomark _))))), ?_⟩
    refine ⟨_, rfl, _, .ref CP, tt, .ref CP, b, rfl, .own _, ty, ki, _, rfl, ?_⟩
    cases b with
    | true =>
      obtain ⟨z, u, rfl, ⟨dz, b1, b2, b3, b4, hz⟩, q⟩ := k1 rfl
      refine iteT ?_
      refine ⟨_, rfl, x, CP, dx, _, _, rfl, hx, TG.cl, TG.text, rfl, _, rfl, z, CP, dz, _, _, rfl, hz, TG.cl, TG.text, rfl, ?_⟩
      have e : decide (V.str t = V.str u) = decide (t = u) := by
        by_cases h : t = u
        · subst h; simp
        · rw [decide_eq_false h]; exact decide_eq_false fun z => h (V.str.inj z)
      refine ⟨rfl, ?_⟩
      rw [e]
      exact q
    | false =>
      refine iteF ?_
      exact k2 rfl
end
end K7
/-! part S3 -/
set_option Elab.async false
set_option linter.all false
set_option maxRecDepth 100000
set_option maxHeartbeats 4000000
/-! isinstance of a caught error that has a dict of its own. -/
namespace ErrD
open PySem PySem.Spec PySem.Calls PyProof.Rows PySem.W
section
variable {prog : Program} {w : World} {A : Around} {E : Value → Shared → Prop} {s : Shared} {K : Frag} {x D : Addr} {ox : Obj} {od : Option Obj}
theorem find_data {C : Addr} {name : Str} {a g : Value} (hc : (clsIn K C).isSome = true) (ha : findIn K (.ref C) name = some (some a)) (hg : specialIn K a "__get__" = some (some g)) (ht : takesIn K a = some true) : findObj K C od name = some (.bind g a) := by
  obtain ⟨cd, hc⟩ := Option.isSome_iff_exists.mp hc
  unfold findObj
  rw [hc, Option.bind_some, ha, Option.bind_some]
  simp [hg, ht]
theorem cls_of {Q : Option Value → Shared → Prop} (T : L2.ExcC K D) (X : K.In s.heap) (I : InstAt s.heap x ox D od) (h : Q (some (.ref D)) { s with toks := s.toks + 1 }) : wpAny (model prog w) A (getAttr? (.ref x) "__class__") Q E s := by
  have hc : (clsIn K D).isSome = true := by
    obtain ⟨cd, hc, _⟩ := any_some T.hd
    rw [hc]
    rfl
  have hf : findObj K D od "__class__" = some (.bind (.builtin "getset_descriptor.__get__") (.builtin "object.__class__")) := find_data hc T.ha T.hn T.ht
  obtain ⟨hp, g, d, t, os⟩ := s
  have L0 := I.type (M := model prog w)
  have L1 := looks_findIn (M := model prog w) X T.hg
  have L2 := looks_findIn (M := model prog w) X T.hk
  have L3 := looks_find (M := model prog w) X I hf
  have sub : Looks (model prog w) hp (isInstance (.ref x) (.type "BaseException")) true := L0.andThen (looks_subIn X T.hs)
  have e2 : (Value.builtin "BaseException.__getattribute__" == Value.builtin "object.__getattribute__") = false := by decide +kernel
  have e1 : (onTheHeap (Value.ref D) && Value.builtin "BaseException.__getattribute__" == Value.builtin "object.__getattribute__") = false := by rw [e2]; rfl
  have e0 : (false && onTheHeap (Value.builtin "BaseException.__getattribute__")) = false := rfl
  unfold getAttr? getAttrBy? getAttrBy
  refine wpAny_bind (wpAny_mkText (wpAny_bind (wpAny_attempt (wpAny_holding (wpAny_bind (L0.at (wpAny_bind (L1.at ?_))))))))
  show wpAny _ _ (if (onTheHeap (Value.ref D) && Value.builtin "BaseException.__getattribute__" == Value.builtin "object.__getattribute__") = true then _ else _) _ _ _
  rw [e1, if_neg Bool.false_ne_true]
  unfold getAttrByItsOwn hookBefore
  refine wpAny_bind ?_
  rw [if_pos (show onTheHeap (Value.ref D) = true from rfl)]
  refine L2.at ?_
  refine wpAny_bind (wpAny_attempt (wpAny_holding ?_))
  unfold callGetattribute
  rw [e0, if_neg Bool.false_ne_true]
  unfold boundAndCalled
  rw [PySem.F.excAttr_ValueError.ga.bind (.ref x)]
  refine wpAny_bind (wpAny_pure ?_)
  show wpAny _ _ (call (.builtin "BaseException.__getattribute__") [.ref x, .str "__class__" t]) _ _ _
  refine wpAny_call (codeAny_call_builtin PySem.F.excAttr_ValueError.ga.plain PySem.F.entry_bexc_ga ?_)
  refine @check_slot (model prog w) _ _ ⟨hp, g, d, t + 1, os⟩ "BaseException.__getattribute__" "BaseException" "__getattribute__" (.ref x) [.str "__class__" t] [] _ (by decide +kernel) (by decide +kernel) sub (PySem.F.args_bexc_ga (.ref x) (.str "__class__" t)) ?_
  unfold Builtin.«object.__getattribute__»
  refine wpAny_bind (wpAny_of_eq (a := ((Value.ref x : Value), [Value.str "__class__" t])) (by first | rfl | (simp only [slotArgs]; rfl)) ?_)
  refine wpAny_bind (wpAny_pure (wpAny_bind (L0.at (wpAny_bind (L3.at ?_)))))
  show wpAny _ _ (holding [Value.builtin "object.__class__"] (call (.builtin "getset_descriptor.__get__") [.builtin "object.__class__", .ref x, .ref D]) >>= ret) _ _ _
  refine wpAny_bind (wpAny_holding (wpAny_call (class_get (s := ⟨hp, g, d, t + 1, os⟩) (ox := ox) (od := od) X I T.hm ?_)))
  refine wpAny_pure ?_
  show wpAny _ _ (handedOut (.ref D)) _ _ _
  rw [handedOut_of (v := .ref D) rfl]
  first
    | exact wpAny_pure (wpAny_pure h)
    | exact wpAny_pure h
    | exact wpAny_pure (wpAny_bind (wpAny_pure (wpAny_pure h)))
theorem kit_exd (T : L2.ExcC K D) : KitX K (.ref x) (.ref D) (fun h => ∃ od, InstAt h x ox D od) := by
  have Z := handS_kitx_exc (x := x) (ox := ox) T.hg T.hk T.hs T.hd T.ha T.hn T.ht T.hm
  have no : ∀ h : Heap, K.In h → ∃ o, h.get? D = some o ∧ ∃ cd, o.data = .cls cd := fun h X => by
    obtain ⟨cd, hc, _⟩ := any_some T.hd
    unfold clsIn at hc
    split at hc
    · rename_i c d cd' sl ho
      exact ⟨_, X _ _ ho, cd', rfl⟩
    · cases hc
  refine ⟨fun _ _ _ ⟨_, I⟩ => I.type, fun M h X _ => ?_, fun h tp dd its n sl X htp => ?_, fun X ⟨_, I⟩ k => cls_of T X I k⟩
  · obtain ⟨o, ho, cd, hd⟩ := no h X
    intro A' Q' E' s' k q
    unfold isType loadHead
    refine wpAny_bind (wpAny_loadPart (k _ _ ho) (wpAny_pure ?_))
    rw [hd]
    exact q
  · refine Bool.eq_false_iff.mpr fun q => ?_
    have e : D = tp := Value.ref.inj (beq_iff_eq.mp q)
    obtain ⟨o, ho, cd, hd⟩ := no h X
    rw [e, htp] at ho
    cases ho
    cases hd
end
end ErrD
namespace ErrD
open PySem PySem.Spec PyProof.Rows L2
theorem inst_xd {X : Cx} {a D dd : Addr} {oe : Obj} {pn pins : List (Addr × Obj)} {σ : L2.St} {H : Hp} {s : Shared} {fs : List (Str × V)} (I : Inv (X.suite a ((a, oe) :: pn)) pins σ H s) (hz : Zc (.ref D) (some dd) oe) (hf : ∃ vs, oe.data = .fields vs) (hd : H dd = some (.xd fs)) :
    ∃ od, PySem.W.InstAt s.heap a oe D od := by
  obtain ⟨ha, _⟩ := I.pin (a, oe) (List.mem_append_left _ List.mem_cons_self)
  obtain ⟨vs, hv⟩ := hf
  obtain ⟨mA, hns, hr⟩ := (show ObjOk X.prog X.w H s.heap dd (.xd fs) from I.hok dd _ hd)
  obtain ⟨od, ho, hl⟩ := lookIn_ns hns
  exact ⟨some od, ha, hz.1, by unfold PySem.W.notCls; rw [hv] <;> rfl, by rw [hz.2]; exact ho⟩
/-- isinstance(e, c), e the caught error of the class D, with a dict -/
def rIsD (K : PySem.W.Frag) (D a : Addr) (cls : Value) (d : Option Addr) : List V → Hp → VK → Prop := fun xs H Q => ∃ (dd : Addr) (c : V) (cv : Value) (b : Bool) (fs : List (Str × V)), cls = .ref D ∧ d = some dd ∧ xs = [.ref a, c] ∧ (∀ u, RelV c u → u = cv) ∧ H dd = some (.xd fs) ∧ PySem.W.kitOne K (.ref D) cv = some b ∧ Q (.bl b) H
theorem call_isD {X : Cx} {a D : Addr} {cls : Value} {d : Option Addr} {oe : Obj} {pn : List (Addr × Obj)} (C : ExcC X.K D) (hz : Zc cls d oe) (hf : ∃ vs, oe.data = .fields vs) : CallR (X.suite a ((a, oe) :: pn)) (.builtin "isinstance") (rIsD X.K D a cls d) := by
  intro pins s σ H xs us Q I r h
  obtain ⟨dd, c, cv, b, fs, rfl, rfl, rfl, hcv, hd, e, q⟩ := h
  cases r with
  | cons rx rr =>
    cases rr with
    | cons rt rr =>
      cases rr
      cases rx
      have ec := hcv _ rt
      subst ec
      exact PySem.W.kia_one (kit_exd C) I.kIn (inst_xd I hz hf hd) e (fun z => nomatch z) fun tk => ⟨.bl b, H, I.kept (t' := tk) fun _ _ z => z, rfl, q⟩
end ErrD
/-! part S4 -/
set_option Elab.async false
set_option linter.all false
set_option maxRecDepth 100000
set_option maxHeartbeats 4000000
/-! An object made in a try: what its __init__ may let out depends upon the slots. -/
namespace MakeS
open PySem PySem.Spec PyProof.Rows L2
section
variable {X : Cx} {CX : CXT} {k : Nat} {f C : Addr} {fd : FuncData} {ps : List Str} {sp : Sp} {E : L2.St → XK} {x : Str} {p pos : Pos} {e : Expr} {es : List Expr} {t : TA}
def tMakeS (C : Addr) (sp : Sp) (E : L2.St → XK) (t : TA) : TE := fun σ H Q => t σ H fun vs H1 => ∀ x dx, H1 x = none → H1 dx = none → dx ≠ x → sp (.ref x :: vs) (upd (upd H1 dx (.own x)) x (.ins C dx [])) (fun v H2 => v = .non ∧ Q (.ref x) H2) (E σ)
theorem pe_makeS (M : Mk X.K C f) (F : FnOk X.prog X.w X.K X.mg X.base CX k f fd ps sp) (hr : Room (k + 1) X.A) (hg : Gl X x) (hm : X.mg x = some (.ref C)) (hb : Binds X.K fd ps []) (hx : ∀ σ, PassesAt CX X σ (E σ))
    (ha : PA X (e :: es) t) (hdb : (x == ("__debug__" : Str)) = false := by decide) (he : starEach (e :: es) X.env = (false, eval e X.env) :: starEach es X.env := by rfl) (hpl : (backTo pos (starEach es X.env)).any (·.1) = false := by rfl) :
    PE X (.Call (.Name x p) (e :: es) [] pos) (tMakeS C sp E t) := by
  refine ⟨fun pins s σ H Q I h => wpAny_Call_Name_kw (ld_glob I hg hm ?_ hdb)⟩
  refine PySem.W.callWith_K (h₀ := X.base) I.ok.mod.kin M.kp (thn (ha.run pos pins s σ H _ I h) fun us s1 z => ?_) he hpl
  obtain ⟨vs, H1, I1, r, q⟩ := z
  refine ⟨I1.kIn, ?_⟩
  generalize hy : s1.heap.objs.size = y
  have n0 : H1 y = none := by rw [← hy]; exact I1.hok.fresh (Nat.le_refl _)
  have n1 : H1 (y + 1) = none := by rw [← hy]; exact I1.hok.fresh (Nat.le_succ _)
  have q' := q (y + 1) y n1 n0 (Nat.ne_of_lt (Nat.lt_succ_self _))
  have I2 := Inv.made (C := C) I1
  rw [hy] at I2
  have r2 : Vals (V.ref (y + 1) :: vs) (Value.ref (y + 1) :: us) := .cons rfl r
  have hl : (Value.ref (y + 1) :: us).length = ps.length := r2.length.symm.trans (F.len _ _ _ _ q')
  have bb := hb _ (Value.ref (y + 1) :: us) I2.kIn (by rw [List.append_nil]; exact hl)
  rw [List.append_nil] at bb
  have run := F.run _ X.stack _ _ ⟨Value.ref (y + 1) :: us, []⟩ (Value.ref (y + 1) :: us) _ _ (E σ) (hr.make C us []) (I2.env0.make C us []) bb r2 q'
  subst hy
  refine wpAny_call (make_map (f := f) I1.kIn M.makes M.init (beq_iff_eq.mp M.fn) (codeAny_mono run fun r s' hq => ?_))
  cases r with
  | error e => exact hx σ pins _ _ e s' I2 hq
  | ok fl =>
    cases fl with
    | ret u =>
      obtain ⟨v, H', I3, rv, ev, q3⟩ := I2.after hq
      subst ev
      exact ⟨rv, V.ref (s1.heap.objs.size + 1), H', I3, rfl, q3⟩
    | next => exact False.elim hq
    | brk => exact False.elim hq
    | cont => exact False.elim hq
end
end MakeS
/-! part D6 -/
set_option Elab.async false
set_option linter.all false
set_option maxRecDepth 100000
set_option maxHeartbeats 2000000
namespace K7
open PySem L2 Rdr LcX MakeS ErrD
abbrev sLineOf : Stmt := top 28
def lineOf (t : Str) : Int := (readM (start t)).isBad.getD (-1)
def spLineOf (K : PySem.W.Frag) : Sp := fun vs H Q _ => ∃ v, vs = [v] ∧ ((∃ t, v = .str t ∧ Fits t ∧ ∀ H', Same H H' → Q (.int (lineOf t)) H') ∨ (NotStr K H v ∧ ∀ H', Same H H' → Q (.int 0) H'))
/-- the class Program, the errors' classes -/
structure RL (K : PySem.W.Frag) (mg : Str → Option Value) (CP cB cK fP : Addr) (fdP : FuncData) : Prop where
  mgP : mg "Program" = some (.ref CP)
  MP : Mk K CP fP
  bP : Binds K fdP ["self", "text"] []
  mgK : mg "KeptError" = some (.ref cK)
  ex : PySem.W.exmOne K (.ref cB) (.ref cK) = some true
  EC : ExcC K cB
  XC : XfC K cB
  nl : PySem.W.findIn K (.ref cB) "line" = some none
  k1 : PySem.W.kitOne K (.ref cB) (.ref cB) = some true
  k2 : PySem.W.kitOne K (.ref cB) (.type "ValueError") = some true
  ve : mg "ValueError" = none
theorem tyx_same {K : PySem.W.Frag} {H H' : Hp} {v : V} {t : Value} (s : Same H H') (h : TyX K H v t) : TyX K H' v t := by
  cases h with
  | base b =>
    refine .base ?_
    cases b with
    | non => exact .non
    | bl y => exact .bl y
    | int i => exact .int i
    | str y => exact .str y
    | flt y => exact .flt y
    | lst e => exact .lst (s _ _ e)
    | frz e => exact .frz (s _ _ e)
    | tup e => exact .tup (s _ _ e)
    | dK e => exact .dK (s _ _ e)
    | dT e => exact .dT (s _ _ e)
    | ins e cl ha hn htk hm => exact .ins (s _ _ e) cl ha hn htk hm
  | byt y => exact .byt y
  | set e => exact .set (s _ _ e)
  | kList e c => exact .kList e c
  | kTuple e c => exact .kTuple e c
  | kDict e c => exact .kDict e c
  | fTuple e => exact .fTuple (s _ _ e)
  | fDict e => exact .fDict (s _ _ e)
theorem NotStr.same {K : PySem.W.Frag} {H H' : Hp} {v : V} (s : Same H H') (h : NotStr K H v) : NotStr K H' v := by
  obtain ⟨t, a, b⟩ := h
  exact ⟨t, tyx_same s a, b⟩
section
variable {P : Program} {w : World} {K : PySem.W.Frag} {mg : Str → Option Value} {base : Heap} {C CP cB cK fB fP : Addr} {fdB fdP : FuncData}
theorem sc_lineOf : FnScope ["_law_value", "_law_told", "error"] ["_law_value"] (defScope sLineOf) := ⟨rfl, rfl, rfl, by decide +kernel, rfl, by decide +kernel, by decide +kernel⟩
theorem ok_lineOf {f : Addr} {fd : FuncData} {k : Nat} (F : Fun K "_law_line_of" "_law_line_of" sLineOf f fd) (T : RT K mg C cB fB fdB) (TL : RL K mg CP cB cK fP fdP) (GP : FnOk P w K mg base (L2.CX P w) k fP fdP ["self", "text"] (spPgInit K CP cB)) :
    FnOk P w K mg base CX0 (k + 2) f fd ["_law_value"] (spLineOf K) := by
  refine F.ok sc_lineOf (fun vs H Q E h => ?_) (fun cdv A outer s H vs Q E hr h => ?_)
  · obtain ⟨v, rfl, _⟩ := h
    rfl
  · obtain ⟨v, rfl, kk⟩ := h
    refine ⟨_, pss_cons (ps_set (i := 1) sc_lineOf.nd rfl (Or.inl rfl) (pe_un un_neg pe_int))
      (pss_cons (ps_try_as (i := 2) (Wout := fun _ _ _ _ => False) rfl rfl sc_lineOf.nd rfl rfl ⟨rfl, by decide, Or.inl TL.mgK⟩ takes0
          (fun W pn xe tk _ => pss_one (ps_expr (pe_makeS TL.MP GP hr rfl TL.mgP TL.bP (fun σ => passAt tk σ) (pa_cons (pv 0) pa_nil))))
          (fun a oe cls d pn hz hf => pss_one (ps_set (i := 1) sc_lineOf.nd rfl (Or.inl rfl) (pe_ifExp (PW.pt (pw_and (pt_val (pe_callB (call_isD TL.EC hz hf) (by rfl) T.isinstance (by decide +kernel) (pa_cons (pv 2) (pa_cons (pe_glob (v := .ref cB) rfl T.mgB rfl) pa_nil))))
              (pw_and1 (pt_val (pe_callB (call_isD TL.EC hz hf) (by rfl) T.isinstance (by decide +kernel) (pa_cons (pv 2) (pa_cons (pe_bltn (v := .ty "ValueError") (by rfl) TL.ve (by decide +kernel) rfl) pa_nil)))))))
            (pe_xf TL.XC TL.nl hz hf (pv 2)) pe_non))))
      (pss_one (ps_ret (pv 1)))), ?_⟩
    refine ⟨_, rfl, ?_⟩
    have ind : ∀ (x dx : Addr) (H' : Hp), H x = none → H dx = none → But [x] (upd (upd H dx (.own x)) x (.ins CP dx [])) H' → Same H H' := fun x dx H' nx nd b q o hq => by
      have qx : q ≠ x := ne_of_none hq nx
      have qd : q ≠ dx := ne_of_none hq nd
      exact b.keep _ _ (by rw [upd_ne qx, upd_ne qd]; exact hq) (by simpa using qx)
    refine ⟨_, rfl, fun x dx nx nd ne => ⟨x, dx, v, rfl, upd_same, ?_⟩⟩
    rcases kk with ⟨t, rfl, ft, kk⟩ | ⟨ns, kk⟩
    · refine .inl ⟨t, rfl, ft, ?_⟩
      unfold lineOf at kk
      cases e : (readM (start t)).isBad with
      | none =>
        rw [e] at kk
        intro a b n c H' bb hx
        exact ⟨rfl, _, rfl, kk H' (ind x dx H' nx nd bb)⟩
      | some n =>
        rw [e] at kk
        intro d H' hd bb hx
        refine ⟨true, TL.ex, fun _ a0 _ => ?_, fun q => Bool.noConfusion q⟩
        refine ⟨_, rfl, d, _, .ref cB, true, _, rfl, rfl, rfl, fun _ z => z, hx, TL.k1, _, rfl, ?_⟩
        refine iteT ?_
        refine ⟨_, rfl, d, _, .type "ValueError", true, _, rfl, rfl, rfl, fun _ z => z, hx, TL.k2, _, rfl, ?_⟩
        refine iteT ?_
        exact ⟨_, rfl, rfl, rfl, d, _, _, rfl, hx, rfl, _, rfl, kk H' (ind x dx H' nx nd bb)⟩
    · have sx : Same H (upd (upd H dx (.own x)) x (.ins CP dx [])) := ind x dx _ nx nd .refl
      refine .inr ⟨ns.same sx, ?_⟩
      intro d H' hd bb hx
      refine ⟨true, TL.ex, fun _ a0 _ => ?_, fun q => Bool.noConfusion q⟩
      refine ⟨_, rfl, d, _, .ref cB, true, _, rfl, rfl, rfl, fun _ z => z, hx, TL.k1, _, rfl, ?_⟩
      refine iteT ?_
      refine ⟨_, rfl, d, _, .type "ValueError", true, _, rfl, rfl, rfl, fun _ z => z, hx, TL.k2, _, rfl, ?_⟩
      refine iteT ?_
      exact ⟨_, rfl, rfl, rfl, d, _, _, rfl, hx, rfl, _, rfl, kk H' (ind x dx H' nx nd bb)⟩
end
end K7
/-! part D7 -/
set_option Elab.async false
set_option linter.all false
set_option maxRecDepth 100000
set_option maxHeartbeats 2000000
namespace K7
open PySem L2 Rdr LcX MakeS ErrD
abbrev sNested : Stmt := top 29
/-- a type of values that are neither texts nor Programs -/
structure PlainTy (K : PySem.W.Frag) (CP : Addr) (tt : Value) : Prop where
  s : PySem.W.kitOne K tt (.type "str") = some false
  k : PySem.W.kitOne K tt (.ref CP) = some false
  n : PySem.W.notFirst K CP tt = true
def Plain (K : PySem.W.Frag) (CP : Addr) (H : Hp) (v : V) : Prop := ∃ tt, TyX K H v tt ∧ PlainTy K CP tt
def KeepP (p : Addr) (H H' : Hp) : Prop := ∀ q o, H q = some o → q ≠ p → H' q = some o
theorem KeepP.trans {p : Addr} {H H1 H2 : Hp} (a : KeepP p H H1) (b : KeepP p H1 H2) : KeepP p H H2 := fun q o h n => b q o (a q o h n) n
theorem KeepP.of {p : Addr} {H H' : Hp} (s : Same H H') : KeepP p H H' := fun q o h _ => s q o h
theorem tyx_keep {K : PySem.W.Frag} {p : Addr} {H H' : Hp} {v : V} {t : Value} {xs ys : List V} (s : KeepP p H H') (h1 : H p = some (.lst xs)) (h2 : H' p = some (.lst ys)) (h : TyX K H v t) : TyX K H' v t := by
  have g : ∀ {a : Addr} {o : HO}, H a = some o → (∀ l, o ≠ .lst l) → H' a = some o := fun {a o} e n => s a o e fun z => by
    rw [z, h1] at e
    exact n _ (Option.some.inj e).symm
  cases h with
  | base b =>
    refine .base ?_
    cases b with
    | non => exact .non
    | bl y => exact .bl y
    | int i => exact .int i
    | str y => exact .str y
    | flt y => exact .flt y
    | @lst a l e =>
      by_cases z : a = p
      · rw [z]; exact .lst h2
      · exact .lst (s _ _ e z)
    | frz e => exact .frz (g e (by simp))
    | tup e => exact .tup (g e (by simp))
    | dK e => exact .dK (g e (by simp))
    | dT e => exact .dT (g e (by simp))
    | ins e cl ha hn htk hm => exact .ins (g e (by simp)) cl ha hn htk hm
  | byt y => exact .byt y
  | set e => exact .set (g e (by simp))
  | kList e c => exact .kList e c
  | kTuple e c => exact .kTuple e c
  | kDict e c => exact .kDict e c
  | fTuple e => exact .fTuple (g e (by simp))
  | fDict e => exact .fDict (g e (by simp))
theorem Plain.keep {K : PySem.W.Frag} {CP p : Addr} {H H' : Hp} {v : V} {xs ys : List V} (s : KeepP p H H') (h1 : H p = some (.lst xs)) (h2 : H' p = some (.lst ys)) (h : Plain K CP H v) : Plain K CP H' v := by
  obtain ⟨t, a, b⟩ := h
  exact ⟨t, tyx_keep s h1 h2 a, b⟩
theorem Plain.same {K : PySem.W.Frag} {CP : Addr} {H H' : Hp} {v : V} (s : Same H H') (h : Plain K CP H v) : Plain K CP H' v := by
  obtain ⟨t, a, b⟩ := h
  exact ⟨t, tyx_same s a, b⟩
structure RN (K : PySem.W.Frag) (CP : Addr) : Prop where
  tuple : PlainTy K CP (.type "tuple")
  list : PlainTy K CP (.type "list")
  dict : PlainTy K CP (.type "dict")
  none : PlainTy K CP (.type "NoneType")
  bool : PlainTy K CP (.type "bool")
  int : PlainTy K CP (.type "int")
def spNested (K : PySem.W.Frag) (CP : Addr) : Sp := fun vs H Q _ => ∃ (p : Addr) (v : V) (a b c : Int), vs = [.ref p, v] ∧ PotAt H p a b c ∧ Plain K CP H v ∧ c < 900000 ∧
  ∀ (v' : V) (a' c' : Int) (H' : Hp), Plain K CP H' v' → PotAt H' p a' b c' → c' ≤ c + 21 → KeepP p H H' → Q v' H'
section
variable {P : Program} {w : World} {K : PySem.W.Frag} {mg : Str → Option Value} {base : Heap} {CP fQ fT fO : Addr} {fdQ fdT fdO : FuncData}
theorem sc_nested : FnScope ["_law_pot_here", "_law_value", "_law_turn"] ["_law_pot_here", "_law_value"] (defScope sNested) := ⟨rfl, rfl, rfl, by decide +kernel, rfl, by decide +kernel, by decide +kernel⟩
theorem ok_nested {f : Addr} {fd : FuncData} (F : Fun K "_law_nested" "_law_nested" sNested f fd) (D : Draws mg K fQ fT fO fdQ fdT fdO) (N : RN K CP) (rg : mg "range" = Option.none) : FnOk P w K mg base CX0 3 f fd ["_law_pot_here", "_law_value"] (spNested K CP) := by
  have GO : FnOk P w K mg base CX0 2 fO fdO ["_law_pot_here", "_law_some"] spOf := ok_of D
  refine F.ok sc_nested (fun vs H Q E h => ?_) (fun cdv A outer s H vs Q E hr h => ?_)
  · obtain ⟨p, v, a, b, c, rfl, _⟩ := h
    rfl
  · obtain ⟨p, v, a, b, c, rfl, hP, pl, c1, kk⟩ := h
    refine ⟨_, pss_cons (ps_for PassesOwn.never rfl (pi_range1 rfl rg (pa_cons (pe_call GO hr rfl D.of_ D.FO.kp D.bO .nil pass0 (pa_cons (pv 0) (pa_cons (pe_lst (pa_cons pe_int (pa_cons pe_int (pa_cons pe_int (pa_cons pe_int pa_nil))))) pa_nil))) pa_nil)) (pg_name (i := 2) sc_nested.nd rfl (Or.inl rfl))
        (pss_one (ps_set (i := 1) sc_nested.nd rfl (Or.inl rfl) (pe_call GO hr rfl D.of_ D.FO.kp D.bO .nil pass0 (pa_cons (pv 0) (pa_cons (pe_lst (pa_cons (pe_tup (pa_cons (pv 1) pa_nil)) (pa_cons (pe_lst (pa_cons (pv 1) pa_nil)) (pa_cons (pe_disp (pps_cons pe_str (pv 1) pps_nil) rfl rfl (by simp) (by decide)) (pa_cons (pe_tup (pa_cons (pv 1) (pa_cons pe_int pa_nil))) pa_nil))))) pa_nil))))))
      (pss_one (ps_ret (pv 1))), ?_⟩
    refine ⟨_, rfl, (by show 4 ≤ sizeLine; decide), fun m nm => ?_⟩
    have sm := Same.new (o := .lst [V.int 0, V.int 1, V.int 2, V.int 20]) nm
    have hm : upd H m (.lst [V.int 0, V.int 1, V.int 2, V.int 20]) m = some (.lst [V.int 0, V.int 1, V.int 2, V.int 20]) := upd_same
    generalize upd H m _ = H1 at sm hm ⊢
    have hP1 : PotAt H1 p a b c := ⟨sm _ _ hP.at_, hP.a0, hP.a1, hP.b0, hP.b1, hP.c0⟩
    refine ⟨p, m, _, a, b, c, rfl, hP1, hm, (fun z => by rw [z, hP.at_] at nm; cases nm), (by decide), (by decide), (by omega), fun n a2 c2 H2 hn hP2 hc2 k2 => ?_⟩
    obtain ⟨n, rfl, hn20⟩ : ∃ j : Nat, n = V.int (j : Int) ∧ j ≤ 20 := by
      simp only [List.mem_cons, List.not_mem_nil, or_false] at hn
      rcases hn with rfl | rfl | rfl | rfl
      · exact ⟨0, rfl, by decide⟩
      · exact ⟨1, rfl, by decide⟩
      · exact ⟨2, rfl, by decide⟩
      · exact ⟨20, rfl, by decide⟩
    have pl2 : Plain K CP H2 v := (pl.same sm).keep k2 hP1.at_ hP2.at_
    refine ⟨_, rfl, (by omega), (by omega), for_range (lo := 0) (n := (n : Int).toNat) (fun i σ H' => ∃ (v' : V) (u : Option V) (a' c' : Int), σ = [some (.ref p), some v', u] ∧ Plain K CP H' v' ∧ PotAt H' p a' b c' ∧ c' ≤ c + 1 + i ∧ KeepP p H H')
      ⟨v, none, a2, c2, rfl, pl2, hP2, by omega, (KeepP.of sm).trans k2⟩ ?_ ?_⟩
    · rintro i σ H3 hi ⟨v3, u3, a3, c3, rfl, pl3, hP3, hc3, k3⟩
      refine ⟨_, rfl, _, rfl, (by show 1 ≤ sizeLine; decide), fun t1 n1 => ⟨_, rfl, (by show 1 ≤ sizeLine; decide), fun t2 n2 => ?_⟩⟩
      have s1 := Same.new (o := .tup [v3]) n1
      have s2 := Same.new (o := .lst [v3]) n2
      refine fun t3 n3 => ⟨_, rfl, upd_same, [(.inr "text", v3)], rfl, (by simp), ?_⟩
      have s3 : Same (upd (upd H3 t1 (.tup [v3])) t2 (.lst [v3])) (upd (upd (upd (upd H3 t1 (.tup [v3])) t2 (.lst [v3])) t3 (.dK [])) t3 (.dK (mergeK [] [(.inr "text", v3)]))) := fun q o hq => by
        have e := ne_of_none hq n3
        rw [upd_ne e, upd_ne e]
        exact hq
      have e3 : upd (upd (upd (upd H3 t1 (.tup [v3])) t2 (.lst [v3])) t3 (.dK [])) t3 (.dK (mergeK [] [(.inr "text", v3)])) t3 = some (.dK (mergeK [] [(.inr "text", v3)])) := upd_same
      have e2 := s3 _ _ (upd_same (H := upd H3 t1 (.tup [v3])) (a := t2) (o := .lst [v3]))
      have e1 := s3 _ _ (s2 _ _ (upd_same (H := H3) (a := t1) (o := .tup [v3])))
      have s4 := (s1.trans s2).trans s3
      generalize upd (upd (upd (upd H3 t1 (.tup [v3])) t2 (.lst [v3])) t3 (.dK [])) t3 (.dK (mergeK [] [(.inr "text", v3)])) = H4 at e1 e2 e3 s4 ⊢
      refine ⟨_, rfl, (by show 2 ≤ sizeLine; decide), fun t4 n4 => ⟨(by show 4 ≤ sizeLine; decide), fun m nm => ?_⟩⟩
      have s5 := Same.new (o := .tup [v3, V.int 1]) n4
      have s6 := Same.new (o := .lst [V.ref t1, V.ref t2, V.ref t3, V.ref t4]) nm
      have e4 := s6 _ _ (upd_same (H := H4) (a := t4) (o := .tup [v3, V.int 1]))
      have e1 := s6 _ _ (s5 _ _ e1)
      have e2 := s6 _ _ (s5 _ _ e2)
      have e3 := s6 _ _ (s5 _ _ e3)
      have em := upd_same (H := upd H4 t4 (.tup [v3, V.int 1])) (a := m) (o := .lst [V.ref t1, V.ref t2, V.ref t3, V.ref t4])
      have s7 := (s4.trans s5).trans s6
      generalize upd (upd H4 t4 (.tup [v3, V.int 1])) m _ = H5 at e1 e2 e3 e4 em s7 ⊢
      have hP5 : PotAt H5 p a3 b c3 := ⟨s7 _ _ hP3.at_, hP3.a0, hP3.a1, hP3.b0, hP3.b1, hP3.c0⟩
      have mp : m ≠ p := fun z => by
        have := (s4.trans s5).free nm
        rw [z, hP3.at_] at this
        cases this
      refine ⟨p, m, _, a3, b, c3, rfl, hP5, em, mp, (by simp), (by simp), (by omega), fun v6 a6 c6 H6 hv hP6 hc6 k6 => ?_⟩
      have pl5 : Plain K CP H5 v6 := by
        simp only [List.mem_cons, List.not_mem_nil, or_false] at hv
        rcases hv with rfl | rfl | rfl | rfl
        · exact ⟨_, .base (.tup e1), N.tuple⟩
        · exact ⟨_, .base (.lst e2), N.list⟩
        · exact ⟨_, .base (.dK e3), N.dict⟩
        · exact ⟨_, .base (.tup e4), N.tuple⟩
      exact ⟨v6, _, a6, c6, rfl, pl5.keep k6 hP5.at_ hP6.at_, hP6, by omega, (k3.trans (.of s7)).trans k6⟩
    · rintro σ H3 ⟨v3, u3, a3, c3, rfl, pl3, hP3, hc3, k3⟩
      exact ⟨_, rfl, kk v3 a3 c3 H3 pl3 hP3 (by omega) k3⟩
end
end K7
/-! part D8a -/
set_option Elab.async false
set_option linter.all false
set_option maxRecDepth 100000
set_option maxHeartbeats 2000000
namespace K7
open PySem L2 Rdr LcX MakeS ErrD
def okp (p : Str × Int) : Bool := (fits p.1 && decide (lineOf p.1 = p.2)) && decide (p.2.natAbs < 100)
theorem p1 : okp ("", 1) = true := by decide +kernel
theorem p2 : okp ("\n", 1) = true := by decide +kernel
theorem p3 : okp (" ", 1) = true := by decide +kernel
theorem p4 : okp ("kind k", 2) = true := by decide +kernel
theorem p5 : okp ("kind k\npass\n", 3) = true := by decide +kernel
theorem p6 : okp (good ++ "\n", 5) = true := by decide +kernel
theorem p7 : okp (good ++ " ", 4) = true := by decide +kernel
theorem p8 : okp ("\n" ++ good, 1) = true := by decide +kernel
theorem p9 : okp (Txt.upper good, 1) = true := by decide +kernel
theorem p10 : okp ("kind", 1) = true := by decide +kernel
theorem p11 : okp ("kind k\npass\n  open", 3) = true := by decide +kernel
theorem p12 : okp ("pass", 1) = true := by decide +kernel
theorem p13 : okp ("kind k\n\npass", 2) = true := by decide +kernel
theorem p14 : okp (cutS good none (some (-1)) ++ "Y", 4) = true := by decide +kernel
theorem p15 : okp (Txt.replace good "  " "\t", 3) = true := by decide +kernel
theorem p16 : okp ("None", 1) = true := by decide +kernel
theorem p0 : okp (good, -1) = true := by decide +kernel
end K7
/-! part D8b -/
set_option Elab.async false
set_option linter.all false
set_option maxRecDepth 100000
set_option maxHeartbeats 4000000
namespace K7
open PySem L2 Rdr LcX MakeS ErrD CwR PySem.Spec PyProof.Rows
section
variable {X : Cx} {es : List Expr} {t : TA} {pos : Pos}
theorem pet_tup {x1} (h : PAT X es t) : PET X (.Tuple es x1 pos) (tTup t) := by
  intro pins s σ H Q h0 I hq
  refine wpAny_Tuple_spliced (thn (h pos pins s σ H _ h0 I hq) fun us s1 z => ?_)
  obtain ⟨xs, H1, I1, r, l, q⟩ := z
  refine ⟨by rw [← r.length]; exact l, .ref s1.heap.objs.size, _, I1.laid (t' := s1.toks) (fun b u e => Heap.get?_push_of_some _ e) (Nat.le_refl _) ?_, rfl, q _ (I1.hok.fresh (Nat.le_refl _))⟩
  exact ⟨l, us, r, ⟨_, Heap.get?_push_size _ rfl, rfl, _, rfl⟩⟩
theorem pst_set {i : Nat} {x : Str} {e : Expr} {te : TE} {pos' : Pos} (hN : X.N.Nodup) (hi : X.N[i]? = some x) (hx : Loc X.env.scope x) (he : PET X e te) (hs : swapsWith e (some (.Name x pos')) pos.line X.env = pure false := by rfl)
    (hf : X.fn x = true ∨ X.env.scope.names.lookup x = some .local := by first | exact .inl rfl | exact .inr rfl | assumption) : PST X (.Assign [.Name x pos'] e pos) (tAsg te (gName i)) := by
  intro pins s σ H D h0 I h
  refine wpAny_Assign_Name (thn (he pins s σ H _ h0 I h) fun v s1 z => ?_) hs
  obtain ⟨y, H1, I1, r1, q1⟩ := z
  exact store_ok I1 hN hi hx r1 (fun s2 I2 => ⟨_, H1, I2, q1⟩) hf
end
section
variable {X : Cx} {s1 s2 s3 s4 : Stmt} {rest : List Stmt} {t1 t2 t3 t4 u : TS}
theorem pss_five {i j : Nat} {x c : Str} {cpos pos' pos : Pos} (hN : X.N.Nodup) (hi : X.N[i]? = some x) (hx : Loc X.env.scope x) (h1 : PS X s1 t1) (h2 : PS X s2 t2) (h3 : PS X s3 t3) (h4 : PST X s4 t4) (h5 : PSs X rest u)
    (hs : swapsWith (.Constant (.str c) j cpos) (some (.Name x pos')) pos.line X.env = pure false := by rfl) (hf : X.fn x = true ∨ X.env.scope.names.lookup x = some .local := by first | exact .inl rfl | exact .inr rfl | assumption) :
    PSs X (.Assign [.Name x pos'] (.Constant (.str c) j cpos) pos :: s1 :: s2 :: s3 :: s4 :: rest) (tSeq (tAsg (tC (.str c)) (gName i)) (tSeq t1 (tSeq t2 (tSeq t3 (tSeq t4 u))))) :=
  pss_str hN hi hx (psst_cons (PST.of h1) (psst_cons (PST.of h2) (psst_cons (PST.of h3) (psst_cons h4 (PSsT.of h5))))) hs hf
end
abbrev sRight : Stmt := top 30
structure RE (K : PySem.W.Frag) (CP fE : Addr) (fdE : FuncData) : Prop where
  F : Fun K "__eq__" "Program.__eq__" sPgEq fE fdE
  b : Binds K fdE ["self", "other"] []
  hs : PySem.W.findIn K (.ref CP) "__eq__" = some (some (.ref fE))
  hf : PySem.W.isFn K (.ref fE) = true
  hsn : PySem.W.findIn K (.ref CP) "__ne__" = some (some (.builtin "object.__ne__"))
  hm : PySem.W.mroIn K CP (.type "object") = some true
  ha : PySem.W.findIn K (.ref CP) "__class__" = some (some (.builtin "object.__class__"))
  hn : PySem.W.specialIn K (.builtin "object.__class__") "__get__" = some (some (.builtin "getset_descriptor.__get__"))
  htk : PySem.W.takesIn K (.builtin "object.__class__") = some true
  kP : PySem.W.kitOne K (.ref CP) (.ref CP) = some true
  nP : PySem.W.notFirst K CP (.ref CP) = true
  sk : PySem.W.kitOne K (.type "str") (.ref CP) = some false
  sn : PySem.W.notFirst K CP (.type "str") = true
def spRight : Sp := fun vs H Q _ => ∃ (p : Addr) (a b c : Int), vs = [.ref p] ∧ PotAt H p a b c ∧ c ≤ 0 ∧ ∀ H', KeepP p H H' → Q (.bl true) H'
def PairAt (H : Hp) (v : V) : Prop := ∃ (t : Addr) (s : Str) (n : Int), v = .ref t ∧ H t = some (.tup [.str s, .int n]) ∧ okp (s, n) = true
theorem PairAt.same {H H' : Hp} {v : V} (s : Same H H') (h : PairAt H v) : PairAt H' v := by
  obtain ⟨t, x, n, e, h, o⟩ := h
  exact ⟨t, x, n, e, s _ _ h, o⟩
theorem PairAt.keep {p : Addr} {H H' : Hp} {v : V} {xs : List V} (s : KeepP p H H') (h1 : H p = some (.lst xs)) (h : PairAt H v) : PairAt H' v := by
  obtain ⟨t, x, n, e, h, o⟩ := h
  exact ⟨t, x, n, e, s _ _ h fun z => (by rw [z, h1] at h; cases h), o⟩
theorem PgAt.same {CP x : Addr} {t : Str} {H H' : Hp} (s : Same H H') (h : PgAt CP H x t) : PgAt CP H' x t := by
  obtain ⟨dx, a, b, n, c, h⟩ := h
  exact ⟨dx, a, b, n, c, s _ _ h⟩
theorem PgAt.keep {CP x p : Addr} {t : Str} {H H' : Hp} {xs : List V} (s : KeepP p H H') (h1 : H p = some (.lst xs)) (h : PgAt CP H x t) : PgAt CP H' x t := by
  obtain ⟨dx, a, b, n, c, h⟩ := h
  exact ⟨dx, a, b, n, c, s _ _ h fun z => (by rw [z, h1] at h; cases h)⟩
/-- a list of pairs that are right -/
def MenuAt (p : Addr) (n : Nat) (H : Hp) (m : Addr) : Prop := m ≠ p ∧ ∃ xs : List V, H m = some (.lst xs) ∧ xs.length = n ∧ ∀ v ∈ xs, PairAt H v
theorem MenuAt.same {p m : Addr} {n : Nat} {H H' : Hp} (s : Same H H') (h : MenuAt p n H m) : MenuAt p n H' m := by
  obtain ⟨n, xs, h1, h2, h4⟩ := h
  exact ⟨n, xs, s _ _ h1, h2, fun v hv => (h4 v hv).same s⟩
theorem MenuAt.keep {p m : Addr} {n : Nat} {H H' : Hp} {ys : List V} (s : KeepP p H H') (hp : H p = some (.lst ys)) (h : MenuAt p n H m) : MenuAt p n H' m := by
  obtain ⟨n, xs, h1, h2, h4⟩ := h
  exact ⟨n, xs, s _ _ h1 n, h2, fun v hv => (h4 v hv).keep s hp⟩
theorem PotAt.same {p : Addr} {a b c : Int} {H H' : Hp} (s : Same H H') (h : PotAt H p a b c) : PotAt H' p a b c := ⟨s _ _ h.at_, h.a0, h.a1, h.b0, h.b1, h.c0⟩
theorem fits_good : Fits good := fits_of (Bool.and_eq_true_iff.mp (Bool.and_eq_true_iff.mp p0).1).1
theorem good_none : (readM (start good)).isBad = none := by decide +kernel
theorem pair_of {s : Str} {n : Int} (h : okp (s, n) = true) : Fits s ∧ lineOf s = n ∧ n.natAbs.log2 < 1920 := by
  obtain ⟨h1, h3⟩ := Bool.and_eq_true_iff.mp h
  obtain ⟨h1, h2⟩ := Bool.and_eq_true_iff.mp h1
  have h3 : n.natAbs < 100 := of_decide_eq_true h3
  have : n.natAbs.log2 < 7 := PySem.Flt.log2_lt_of (by decide) (by omega)
  exact ⟨fits_of h1, of_decide_eq_true h2, by omega⟩
end K7
/-! part D8 -/
set_option Elab.async false
set_option linter.all false
set_option maxRecDepth 100000
set_option maxHeartbeats 1000000
namespace K7
open PySem L2 Rdr LcX MakeS ErrD CwR
section
variable (P : Program) (w : World) (K : PySem.W.Frag) (mg : Str → Option Value) (base : Heap)
structure DOk0 (k : Nat) (x : Str) (sp : Sp) : Prop where
  ex : ∃ f fd ps, mg x = some (.ref f) ∧ PySem.W.keepIn K (.ref f) = true ∧ FnOk P w K mg base CX0 k f fd ps sp ∧ Binds K fd ps []
end
section
variable {X : Cx} {k : Nat} {x : Str} {sp : Sp} {e : Expr} {es : List Expr} {E : XK} {t : TA} {pos p : Pos}
theorem g_call (G : DOk0 X.prog X.w X.K X.mg X.base k x sp) (hr : Room k X.A) (hx : Passes CX0 X E) (ha : PA X (e :: es) t) (hg : Gl X x := by rfl)
    (hdb : (x == ("__debug__" : Str)) = false := by decide) (he : starEach (e :: es) X.env = (false, eval e X.env) :: starEach es X.env := by rfl) (hpl : (backTo pos (starEach es X.env)).any (·.1) = false := by rfl) :
    PE X (.Call (.Name x p) (e :: es) [] pos) (tCall sp [] E t) := by
  obtain ⟨f, fd, ps, hm, kp, F, b⟩ := G.ex
  exact pe_call F hr hg hm kp b .nil hx ha hdb he hpl
end
section
variable {P : Program} {w : World} {K : PySem.W.Frag} {mg : Str → Option Value} {base : Heap} {C CP cB cK fB fP fE : Addr} {fdB fdP fdE : FuncData}
theorem sc_right : FnScope ["_law_pot_here", "_law_text", "_law_good", "_law_strings", "_law_turn", "_law_value", "_law_said", "_law_due"] ["_law_pot_here"] (defScope sRight) := ⟨rfl, rfl, rfl, by decide +kernel, rfl, by decide +kernel, by decide +kernel⟩
theorem ok_right {f : Addr} {fd : FuncData} {k : Nat} (hk : 3 ≤ k) (F : Fun K "_law_right" "_law_right" sRight f fd) (T : RT K mg C cB fB fdB) (TL : RL K mg CP cB cK fP fdP) (TE : RE K CP fE fdE) (N : RN K CP) (CC : Cls K CP) (rp : mg "repr" = none) (GE : FnOk P w K mg base (L2.CX P w) 1 fE fdE ["self", "other"] (spPgEq K CP)) (GP : FnOk P w K mg base (L2.CX P w) k fP fdP ["self", "text"] (spPgInit K CP cB))
    (GO : DOk0 P w K mg base 2 "_law_of" spOf) (GN : DOk0 P w K mg base 3 "_law_nested" (spNested K CP)) (GL : DOk0 P w K mg base (k + 2) "_law_line_of" (spLineOf K)) :
    FnOk P w K mg base CX0 (k + 3) f fd ["_law_pot_here"] spRight := by
  refine F.ok sc_right (fun vs H Q E h => ?_) (fun cdv A outer s H vs Q E hr h => ?_)
  · obtain ⟨p, a, b, c, rfl, _⟩ := h
    rfl
  · obtain ⟨p, a, b, c, rfl, hP, c0, kk⟩ := h
    have hrP : Room (k + 1) _ := hr.mono (by omega)
    have hr3 : Room 3 _ := hr.mono (by omega)
    have hr2 : Room 2 _ := hr.mono (by omega)
    have hr1 : Room 1 _ := hr.mono (by omega)
    refine ⟨_, pss_five (i := 1) sc_right.nd rfl (Or.inl rfl)
      (ps_set (i := 2) sc_right.nd rfl (Or.inl rfl) (pe_make TL.MP GP hrP rfl TL.mgP TL.bP .nil passL (pa_cons (pv 1) pa_nil)))
      (ps_set (i := 3) sc_right.nd rfl (Or.inl rfl) (pe_lst (pa_cons (pe_tup (pa_cons pe_str (pa_cons pe_int pa_nil))) (pa_cons (pe_tup (pa_cons pe_str (pa_cons pe_int pa_nil))) (pa_cons (pe_tup (pa_cons pe_str (pa_cons pe_int pa_nil))) (pa_cons (pe_tup (pa_cons pe_str (pa_cons pe_int pa_nil))) (pa_cons (pe_tup (pa_cons pe_str (pa_cons pe_int pa_nil))) (pa_cons (pe_tup (pa_cons (pe_op op_add_str (pv 1) pe_str) (pa_cons pe_int pa_nil))) (pa_cons (pe_tup (pa_cons (pe_op op_add_str (pv 1) pe_str) (pa_cons pe_int pa_nil))) pa_nil)))))))))
      (ps_set (i := 3) sc_right.nd rfl (Or.inl rfl) (pe_op op_cat (pv 3) (pe_lst (pa_cons (pe_tup (pa_cons (pe_op op_add_str pe_str (pv 1)) (pa_cons pe_int pa_nil))) (pa_cons (pe_tup (pa_cons (pe_upper (pv 1)) (pa_cons pe_int pa_nil))) (pa_cons (pe_tup (pa_cons pe_str (pa_cons pe_int pa_nil))) (pa_cons (pe_tup (pa_cons pe_str (pa_cons pe_int pa_nil))) (pa_cons (pe_tup (pa_cons pe_str (pa_cons pe_int pa_nil))) pa_nil))))))))
      (pst_set (i := 3) sc_right.nd rfl (Or.inl rfl) (pet_op op_cat (PET.of (pv 3)) (pet_lst (pat_cons (PET.of (pe_tup (pa_cons pe_str (pa_cons pe_int pa_nil)))) (pat_cons (PET.of (pe_tup (pa_cons (pe_op op_add_str (pe_slice sl_str (pv 1) po_none (po_some (pe_un un_neg pe_int))) pe_str) (pa_cons pe_int pa_nil)))) (pat_cons (pet_tup (pat_cons (pet_replC (pv 1)) (pat_cons (PET.of pe_int) pat_nil))) (pat_cons (PET.of (pe_tup (pa_cons pe_str (pa_cons pe_int pa_nil)))) pat_nil)))))))
      (pss_cons (ps_for PassesOwn.never rfl (pi_range1 rfl T.range (pa_cons pe_int pa_nil)) (pg_name (i := 4) sc_right.nd rfl (Or.inl rfl))
          (pss_cons (ps_set (i := 5) sc_right.nd rfl (Or.inl rfl) (g_call GN hr3 pass0 (pa_cons (pv 0) (pa_cons (g_call GO hr2 pass0 (pa_cons (pv 0) (pa_cons (pe_lst (pa_cons pe_non (pa_cons pe_bl (pa_cons pe_bl (pa_cons pe_int (pa_cons pe_int (pa_cons (pe_un un_neg pe_int) (pa_cons (pe_op op_powB pe_int pe_int) (pa_cons (pe_tup pa_nil) (pa_cons (pe_lst pa_nil) (pa_cons pe_dnewK (pa_cons (pe_tup (pa_cons (pv 1) pa_nil)) (pa_cons (pe_lst (pa_cons (pv 1) pa_nil)) pa_nil))))))))))))) pa_nil))) pa_nil))))
          (pss_cons (ps_if (PW.pt (pw_or (pt_cmpR op_ne (pe_callB SkE.call_repr_int (by rfl) rp (by decide +kernel) (pa_cons (g_call GL hr pass0 (pa_cons (pv 5) pa_nil)) pa_nil)) pe_str (nomark _))
              (pw_or (pt_cmpR (NeX.op_eqO GE TE.hs TE.hf TE.b passL hr1) (pv 2) (pv 5) (nomark _)) (pw_or1 (pt_not (pt_cmpR (NeX.op_neO GE TE.hs TE.hsn TE.hm TE.hf TE.b passL hr2) (pv 2) (pv 5) (nomark _)))))))
            (pss_one (ps_ret pe_bl)) pss_nil)
          (pss_cons (ps_asg (g_call GO hr2 pass0 (pa_cons (pv 0) (pa_cons (pv 3) pa_nil))) (pg_tup rfl (pgs_cons (pg_name (i := 6) sc_right.nd rfl (Or.inl rfl)) (pgs_cons (pg_name (i := 7) sc_right.nd rfl (Or.inl rfl)) pgs_nil))))
          (pss_one (ps_if (pt_cmpR op_ne (pe_callB SkE.call_repr_int (by rfl) rp (by decide +kernel) (pa_cons (g_call GL hr pass0 (pa_cons (pv 6) pa_nil)) pa_nil)) (pe_callB SkE.call_repr_int (by rfl) rp (by decide +kernel) (pa_cons (pv 7) pa_nil)) (nomark _))
            (pss_one (ps_ret pe_bl)) pss_nil))))))
      (pss_one (ps_ret (pe_and (pe_cmpR (NeX.op_eqO GE TE.hs TE.hf TE.b passL hr1) (pv 2) (pe_make TL.MP GP hrP rfl TL.mgP TL.bP .nil passL (pa_cons (pv 1) pa_nil)) (nomark _))
          (pe_and (pe_not (pe_cmpR (NeX.op_eqO GE TE.hs TE.hf TE.b passL hr1) (pv 2) (pv 1) (nomark _)))
          (pe_one (pe_cmpR op_eq (g_call GL hr pass0 (pa_cons (pv 1) pa_nil)) (pe_un un_neg pe_int) (nomark _)))))))), ?_⟩
    refine ⟨_, rfl, fun x dx nx nd ne => ⟨x, dx, _, rfl, upd_same, .inl ⟨good, rfl, fits_good, ?_⟩⟩⟩
    rw [good_none]
    intro a1 a2 a3 a4 H1 b1 hx
    refine ⟨rfl, ?_⟩
    have s1 : Same H H1 := fun q o hq => by
      have qx : q ≠ x := ne_of_none hq nx
      have qd : q ≠ dx := ne_of_none hq nd
      exact b1.keep _ _ (by rw [upd_ne qx, upd_ne qd]; exact hq) (by simpa using qx)
    have G1 : PgAt CP H1 x good := ⟨dx, a1, a2, a3, a4, hx⟩
    have hP1 := hP.same s1
    clear b1 hx nx nd ne
    refine ⟨(by show 2 ≤ sizeLine; decide), fun t1 nt1 => ?_⟩
    have st1 := Same.new (o := .tup [V.str (""), V.int (1)]) nt1
    have Et1 : PairAt (upd H1 t1 (.tup [V.str (""), V.int (1)])) (.ref t1) := ⟨t1, _, _, rfl, upd_same, p1⟩
    generalize upd H1 t1 (.tup [V.str (""), V.int (1)]) = H2 at st1 Et1 ⊢
    refine ⟨(by show 2 ≤ sizeLine; decide), fun t2 nt2 => ?_⟩
    have st2 := Same.new (o := .tup [V.str ("\n"), V.int (1)]) nt2
    have Et2 : PairAt (upd H2 t2 (.tup [V.str ("\n"), V.int (1)])) (.ref t2) := ⟨t2, _, _, rfl, upd_same, p2⟩
    generalize upd H2 t2 (.tup [V.str ("\n"), V.int (1)]) = H3 at st2 Et2 ⊢
    refine ⟨(by show 2 ≤ sizeLine; decide), fun t3 nt3 => ?_⟩
    have st3 := Same.new (o := .tup [V.str (" "), V.int (1)]) nt3
    have Et3 : PairAt (upd H3 t3 (.tup [V.str (" "), V.int (1)])) (.ref t3) := ⟨t3, _, _, rfl, upd_same, p3⟩
    generalize upd H3 t3 (.tup [V.str (" "), V.int (1)]) = H4 at st3 Et3 ⊢
    refine ⟨(by show 2 ≤ sizeLine; decide), fun t4 nt4 => ?_⟩
    have st4 := Same.new (o := .tup [V.str ("kind k"), V.int (2)]) nt4
    have Et4 : PairAt (upd H4 t4 (.tup [V.str ("kind k"), V.int (2)])) (.ref t4) := ⟨t4, _, _, rfl, upd_same, p4⟩
    generalize upd H4 t4 (.tup [V.str ("kind k"), V.int (2)]) = H5 at st4 Et4 ⊢
    refine ⟨(by show 2 ≤ sizeLine; decide), fun t5 nt5 => ?_⟩
    have st5 := Same.new (o := .tup [V.str ("kind k\npass\n"), V.int (3)]) nt5
    have Et5 : PairAt (upd H5 t5 (.tup [V.str ("kind k\npass\n"), V.int (3)])) (.ref t5) := ⟨t5, _, _, rfl, upd_same, p5⟩
    generalize upd H5 t5 (.tup [V.str ("kind k\npass\n"), V.int (3)]) = H6 at st5 Et5 ⊢
    refine ⟨_, rfl, _, _, rfl, rfl, (by show good.length + 1 ≤ sizeLine; decide), (by show 2 ≤ sizeLine; decide), fun t6 nt6 => ?_⟩
    have st6 := Same.new (o := .tup [V.str (("kind k\npass\n  open k\n    line a k.key" : Str) ++ "\n"), V.int (5)]) nt6
    have Et6 : PairAt (upd H6 t6 (.tup [V.str (("kind k\npass\n  open k\n    line a k.key" : Str) ++ "\n"), V.int (5)])) (.ref t6) := ⟨t6, _, _, rfl, upd_same, p6⟩
    generalize upd H6 t6 (.tup [V.str (("kind k\npass\n  open k\n    line a k.key" : Str) ++ "\n"), V.int (5)]) = H7 at st6 Et6 ⊢
    refine ⟨_, rfl, _, _, rfl, rfl, (by show good.length + 1 ≤ sizeLine; decide), (by show 2 ≤ sizeLine; decide), fun t7 nt7 => ?_⟩
    have st7 := Same.new (o := .tup [V.str (("kind k\npass\n  open k\n    line a k.key" : Str) ++ " "), V.int (4)]) nt7
    have Et7 : PairAt (upd H7 t7 (.tup [V.str (("kind k\npass\n  open k\n    line a k.key" : Str) ++ " "), V.int (4)])) (.ref t7) := ⟨t7, _, _, rfl, upd_same, p7⟩
    generalize upd H7 t7 (.tup [V.str (("kind k\npass\n  open k\n    line a k.key" : Str) ++ " "), V.int (4)]) = H8 at st7 Et7 ⊢
    refine ⟨(by show 7 ≤ sizeLine; decide), fun m1 nm1 => ?_⟩
    have sm1 := Same.new (o := .lst [V.ref t1, V.ref t2, V.ref t3, V.ref t4, V.ref t5, V.ref t6, V.ref t7]) nm1
    have hm1 : upd H8 m1 (.lst [V.ref t1, V.ref t2, V.ref t3, V.ref t4, V.ref t5, V.ref t6, V.ref t7]) m1 = some (.lst [V.ref t1, V.ref t2, V.ref t3, V.ref t4, V.ref t5, V.ref t6, V.ref t7]) := upd_same
    generalize upd H8 m1 _ = H9 at sm1 hm1 ⊢
    have em1 : ∀ v ∈ [V.ref t1, V.ref t2, V.ref t3, V.ref t4, V.ref t5, V.ref t6, V.ref t7], PairAt H9 v := fun v hv => by
      simp only [List.mem_cons, List.not_mem_nil, or_false] at hv
      rcases hv with rfl | rfl | rfl | rfl | rfl | rfl | rfl
      · exact Et1.same ((((((st2.trans st3).trans st4).trans st5).trans st6).trans st7).trans sm1)
      · exact Et2.same (((((st3.trans st4).trans st5).trans st6).trans st7).trans sm1)
      · exact Et3.same ((((st4.trans st5).trans st6).trans st7).trans sm1)
      · exact Et4.same (((st5.trans st6).trans st7).trans sm1)
      · exact Et5.same ((st6.trans st7).trans sm1)
      · exact Et6.same (st7.trans sm1)
      · exact Et7.same sm1
    have Sm1 := (((((((st1.trans st2).trans st3).trans st4).trans st5).trans st6).trans st7).trans sm1)
    clear Et1 st1 nt1 Et2 st2 nt2 Et3 st3 nt3 Et4 st4 nt4 Et5 st5 nt5 Et6 st6 nt6 Et7 st7 nt7
    have hP9 := hP1.same Sm1
    have G9 := G1.same Sm1
    have M9 : MenuAt p 7 H9 m1 := ⟨fun z => (by rw [z] at hm1; rw [hP9.at_] at hm1; cases hm1), _, hm1, rfl, em1⟩
    have K9 : Same H H9 := s1.trans Sm1
    clear hP1 G1 s1 Sm1 em1 sm1 nm1
    refine ⟨_, rfl, _, rfl, _, _, rfl, rfl, (by show 1 + good.length ≤ sizeLine; decide), (by show 2 ≤ sizeLine; decide), fun t8 nt8 => ?_⟩
    have st8 := Same.new (o := .tup [V.str ("\n" ++ ("kind k\npass\n  open k\n    line a k.key" : Str)), V.int (1)]) nt8
    have Et8 : PairAt (upd H9 t8 (.tup [V.str ("\n" ++ ("kind k\npass\n  open k\n    line a k.key" : Str)), V.int (1)])) (.ref t8) := ⟨t8, _, _, rfl, upd_same, p8⟩
    generalize upd H9 t8 (.tup [V.str ("\n" ++ ("kind k\npass\n  open k\n    line a k.key" : Str)), V.int (1)]) = H10 at st8 Et8 ⊢
    refine ⟨_, rfl, ⟨_, rfl⟩, _, rfl, rfl, (by show good.length ≤ 5592405; decide), (by show 2 ≤ sizeLine; decide), fun t9 nt9 => ?_⟩
    have st9 := Same.new (o := .tup [V.str (Txt.upper ("kind k\npass\n  open k\n    line a k.key" : Str)), V.int (1)]) nt9
    have Et9 : PairAt (upd H10 t9 (.tup [V.str (Txt.upper ("kind k\npass\n  open k\n    line a k.key" : Str)), V.int (1)])) (.ref t9) := ⟨t9, _, _, rfl, upd_same, p9⟩
    generalize upd H10 t9 (.tup [V.str (Txt.upper ("kind k\npass\n  open k\n    line a k.key" : Str)), V.int (1)]) = H11 at st9 Et9 ⊢
    refine ⟨(by show 2 ≤ sizeLine; decide), fun t10 nt10 => ?_⟩
    have st10 := Same.new (o := .tup [V.str ("kind"), V.int (1)]) nt10
    have Et10 : PairAt (upd H11 t10 (.tup [V.str ("kind"), V.int (1)])) (.ref t10) := ⟨t10, _, _, rfl, upd_same, p10⟩
    generalize upd H11 t10 (.tup [V.str ("kind"), V.int (1)]) = H12 at st10 Et10 ⊢
    refine ⟨(by show 2 ≤ sizeLine; decide), fun t11 nt11 => ?_⟩
    have st11 := Same.new (o := .tup [V.str ("kind k\npass\n  open"), V.int (3)]) nt11
    have Et11 : PairAt (upd H12 t11 (.tup [V.str ("kind k\npass\n  open"), V.int (3)])) (.ref t11) := ⟨t11, _, _, rfl, upd_same, p11⟩
    generalize upd H12 t11 (.tup [V.str ("kind k\npass\n  open"), V.int (3)]) = H13 at st11 Et11 ⊢
    refine ⟨(by show 2 ≤ sizeLine; decide), fun t12 nt12 => ?_⟩
    have st12 := Same.new (o := .tup [V.str ("pass"), V.int (1)]) nt12
    have Et12 : PairAt (upd H13 t12 (.tup [V.str ("pass"), V.int (1)])) (.ref t12) := ⟨t12, _, _, rfl, upd_same, p12⟩
    generalize upd H13 t12 (.tup [V.str ("pass"), V.int (1)]) = H14 at st12 Et12 ⊢
    refine ⟨(by show 5 ≤ sizeLine; decide), fun l2 nl2 => ?_⟩
    have sl2 := Same.new (o := .lst [V.ref t8, V.ref t9, V.ref t10, V.ref t11, V.ref t12]) nl2
    have hl2 : upd H14 l2 (.lst [V.ref t8, V.ref t9, V.ref t10, V.ref t11, V.ref t12]) l2 = some (.lst [V.ref t8, V.ref t9, V.ref t10, V.ref t11, V.ref t12]) := upd_same
    generalize upd H14 l2 _ = H15 at sl2 hl2 ⊢
    have el2 : ∀ v ∈ [V.ref t8, V.ref t9, V.ref t10, V.ref t11, V.ref t12], PairAt H15 v := fun v hv => by
      simp only [List.mem_cons, List.not_mem_nil, or_false] at hv
      rcases hv with rfl | rfl | rfl | rfl | rfl
      · exact Et8.same ((((st9.trans st10).trans st11).trans st12).trans sl2)
      · exact Et9.same (((st10.trans st11).trans st12).trans sl2)
      · exact Et10.same ((st11.trans st12).trans sl2)
      · exact Et11.same (st12.trans sl2)
      · exact Et12.same sl2
    have Sl2 := (((((st8.trans st9).trans st10).trans st11).trans st12).trans sl2)
    clear Et8 st8 nt8 Et9 st9 nt9 Et10 st10 nt10 Et11 st11 nt11 Et12 st12 nt12
    have M15 := M9.same Sl2
    obtain ⟨_, xs, hm, l1, pr⟩ := M15
    refine ⟨m1, l2, xs, _, rfl, rfl, hm, hl2, (by simp; have := le_line (n := 20002) (by omega); omega), fun m2 nm2 => ?_⟩
    have hP16 := hP9.same (Sl2.trans (Same.new (o := .lst (xs ++ [V.ref t8, V.ref t9, V.ref t10, V.ref t11, V.ref t12])) nm2))
    have G16 := G9.same (Sl2.trans (Same.new (o := .lst (xs ++ [V.ref t8, V.ref t9, V.ref t10, V.ref t11, V.ref t12])) nm2))
    have K16 := K9.trans (Sl2.trans (Same.new (o := .lst (xs ++ [V.ref t8, V.ref t9, V.ref t10, V.ref t11, V.ref t12])) nm2))
    have hm2 := upd_same (H := H15) (a := m2) (o := .lst (xs ++ [V.ref t8, V.ref t9, V.ref t10, V.ref t11, V.ref t12]))
    have em2 : ∀ v ∈ xs ++ [V.ref t8, V.ref t9, V.ref t10, V.ref t11, V.ref t12], PairAt (upd H15 m2 (.lst (xs ++ [V.ref t8, V.ref t9, V.ref t10, V.ref t11, V.ref t12]))) v := fun v hv => ((List.mem_append.mp hv).elim (fun z => pr v z) (fun z => el2 v z)).same (Same.new nm2)
    generalize upd H15 m2 _ = H16 at hP16 G16 K16 hm2 em2 ⊢
    have M16 : MenuAt p 12 H16 m2 := ⟨fun z => (by rw [z] at hm2; rw [hP16.at_] at hm2; have := congrArg (fun o => match o with | some (HO.lst l) => l.length | _ => 0) hm2; simp at this), _, hm2, by simp [l1], em2⟩
    clear hm2 em2 Sl2 hl2 el2 pr hm xs l1 sl2 nl2 nm2 hm1
    refine ⟨_, rfl, ?_⟩
    refine ⟨(by show 2 ≤ sizeLine; decide), fun t13 nt13 => ?_⟩
    have st13 := Same.new (o := .tup [V.str ("kind k\n\npass"), V.int (2)]) nt13
    have Et13 : PairAt (upd H16 t13 (.tup [V.str ("kind k\n\npass"), V.int (2)])) (.ref t13) := ⟨t13, _, _, rfl, upd_same, p13⟩
    generalize upd H16 t13 (.tup [V.str ("kind k\n\npass"), V.int (2)]) = H17 at st13 Et13 ⊢
    refine ⟨_, rfl, _, rfl, _, rfl, _, rfl, (by decide), _, _, rfl, rfl, (by show (cutS good none (some (-1))).length + 1 ≤ sizeLine; decide +kernel), (by show 2 ≤ sizeLine; decide), fun t14 nt14 => ?_⟩
    have st14 := Same.new (o := .tup [V.str (cutS ("kind k\npass\n  open k\n    line a k.key" : Str) none (some (-1)) ++ "Y"), V.int (4)]) nt14
    have Et14 : PairAt (upd H17 t14 (.tup [V.str (cutS ("kind k\npass\n  open k\n    line a k.key" : Str) none (some (-1)) ++ "Y"), V.int (4)])) (.ref t14) := ⟨t14, _, _, rfl, upd_same, p14⟩
    generalize upd H17 t14 (.tup [V.str (cutS ("kind k\npass\n  open k\n    line a k.key" : Str) none (some (-1)) ++ "Y"), V.int (4)]) = H18 at st14 Et14 ⊢
    refine ⟨_, rfl, _, rfl, (by decide), (by show 2 ≤ sizeLine; decide), fun t15 nt15 => ?_⟩
    have st15 := Same.new (o := .tup [V.str (Txt.replace ("kind k\npass\n  open k\n    line a k.key" : Str) "  " "\t"), V.int (3)]) nt15
    have Et15 : PairAt (upd H18 t15 (.tup [V.str (Txt.replace ("kind k\npass\n  open k\n    line a k.key" : Str) "  " "\t"), V.int (3)])) (.ref t15) := ⟨t15, _, _, rfl, upd_same, p15⟩
    generalize upd H18 t15 (.tup [V.str (Txt.replace ("kind k\npass\n  open k\n    line a k.key" : Str) "  " "\t"), V.int (3)]) = H19 at st15 Et15 ⊢
    refine ⟨(by show 2 ≤ sizeLine; decide), fun t16 nt16 => ?_⟩
    have st16 := Same.new (o := .tup [V.str ("None"), V.int (1)]) nt16
    have Et16 : PairAt (upd H19 t16 (.tup [V.str ("None"), V.int (1)])) (.ref t16) := ⟨t16, _, _, rfl, upd_same, p16⟩
    generalize upd H19 t16 (.tup [V.str ("None"), V.int (1)]) = H20 at st16 Et16 ⊢
    refine ⟨(by show 4 ≤ sizeLine; decide), fun l3 nl3 => ?_⟩
    have sl3 := Same.new (o := .lst [V.ref t13, V.ref t14, V.ref t15, V.ref t16]) nl3
    have hl3 : upd H20 l3 (.lst [V.ref t13, V.ref t14, V.ref t15, V.ref t16]) l3 = some (.lst [V.ref t13, V.ref t14, V.ref t15, V.ref t16]) := upd_same
    generalize upd H20 l3 _ = H21 at sl3 hl3 ⊢
    have el3 : ∀ v ∈ [V.ref t13, V.ref t14, V.ref t15, V.ref t16], PairAt H21 v := fun v hv => by
      simp only [List.mem_cons, List.not_mem_nil, or_false] at hv
      rcases hv with rfl | rfl | rfl | rfl
      · exact Et13.same (((st14.trans st15).trans st16).trans sl3)
      · exact Et14.same ((st15.trans st16).trans sl3)
      · exact Et15.same (st16.trans sl3)
      · exact Et16.same sl3
    have Sl3 := ((((st13.trans st14).trans st15).trans st16).trans sl3)
    clear Et13 st13 nt13 Et14 st14 nt14 Et15 st15 nt15 Et16 st16 nt16
    have M21 := M16.same Sl3
    obtain ⟨_, xs, hm, l1, pr⟩ := M21
    refine ⟨m2, l3, xs, _, rfl, rfl, hm, hl3, (by simp; have := le_line (n := 20002) (by omega); omega), fun m3 nm3 => ?_⟩
    have hQ := hP16.same (Sl3.trans (Same.new (o := .lst (xs ++ [V.ref t13, V.ref t14, V.ref t15, V.ref t16])) nm3))
    have GQ := G16.same (Sl3.trans (Same.new (o := .lst (xs ++ [V.ref t13, V.ref t14, V.ref t15, V.ref t16])) nm3))
    have KQ := K16.trans (Sl3.trans (Same.new (o := .lst (xs ++ [V.ref t13, V.ref t14, V.ref t15, V.ref t16])) nm3))
    have hm3 := upd_same (H := H21) (a := m3) (o := .lst (xs ++ [V.ref t13, V.ref t14, V.ref t15, V.ref t16]))
    have em3 : ∀ v ∈ xs ++ [V.ref t13, V.ref t14, V.ref t15, V.ref t16], PairAt (upd H21 m3 (.lst (xs ++ [V.ref t13, V.ref t14, V.ref t15, V.ref t16]))) v := fun v hv => ((List.mem_append.mp hv).elim (fun z => pr v z) (fun z => el3 v z)).same (Same.new nm3)
    generalize upd H21 m3 _ = HQ at hQ GQ KQ hm3 em3 ⊢
    have MQ : MenuAt p 16 HQ m3 := ⟨fun z => (by rw [z] at hm3; rw [hQ.at_] at hm3; have := congrArg (fun o => match o with | some (HO.lst l) => l.length | _ => 0) hm3; simp at this), _, hm3, by simp [l1], em3⟩
    clear hm3 em3 Sl3 hl3 el3 pr hm xs l1 sl3 nl3 nm3
    refine ⟨_, rfl, (by decide), (by decide), for_range (lo := 0) (n := (12 : Int).toNat) (fun i σ H' => ∃ (u4 u5 u6 u7 : Option V) (a' c' : Int), σ = [some (.ref p), some (.str good), some (.ref x), some (.ref m3), u4, u5, u6, u7] ∧ PotAt H' p a' b c' ∧ c' ≤ 23 * (i : Int) ∧ PgAt CP H' x good ∧ MenuAt p 16 H' m3 ∧ KeepP p H H')
      ⟨none, none, none, none, a, c, rfl, hQ, by omega, GQ, MQ, KeepP.of KQ⟩ ?_ ?_⟩
    · rintro i σ I1 hi ⟨u4, u5, u6, u7, a3, c3, rfl, hP3, hc3, G3, M3, k3⟩
      have hi : i < 12 := hi
      refine ⟨_, rfl, _, rfl, _, rfl, _, _, rfl, rfl, ⟨by decide, by decide⟩, (by show 0 ≤ sizeLine; decide), fun q1 nq1 => ?_⟩
      have zq1 := Same.new (o := .tup []) nq1
      have eq1 : upd I1 q1 (.tup []) q1 = some (.tup []) := upd_same
      generalize upd I1 q1 _ = J1 at zq1 eq1 ⊢
      refine ⟨(by show 0 ≤ sizeLine; decide), fun q2 nq2 => ?_⟩
      have zq2 := Same.new (o := .lst []) nq2
      have eq2 : upd J1 q2 (.lst []) q2 = some (.lst []) := upd_same
      generalize upd J1 q2 _ = J2 at zq2 eq2 ⊢
      refine fun q3 nq3 => ?_
      have zq3 := Same.new (o := .dK []) nq3
      have eq3 : upd J2 q3 (.dK []) q3 = some (.dK []) := upd_same
      generalize upd J2 q3 _ = J3 at zq3 eq3 ⊢
      refine ⟨_, rfl, (by show 1 ≤ sizeLine; decide), fun q4 nq4 => ?_⟩
      have zq4 := Same.new (o := .tup [V.str good]) nq4
      have eq4 : upd J3 q4 (.tup [V.str good]) q4 = some (.tup [V.str good]) := upd_same
      generalize upd J3 q4 _ = J4 at zq4 eq4 ⊢
      refine ⟨_, rfl, (by show 1 ≤ sizeLine; decide), fun q5 nq5 => ?_⟩
      have zq5 := Same.new (o := .lst [V.str good]) nq5
      have eq5 : upd J4 q5 (.lst [V.str good]) q5 = some (.lst [V.str good]) := upd_same
      generalize upd J4 q5 _ = J5 at zq5 eq5 ⊢
      refine ⟨(by show 12 ≤ sizeLine; decide), fun ml nml => ?_⟩
      have zml := Same.new (o := .lst [V.non, V.bl true, V.bl false, V.int 0, V.int 1, (fun i : Int => V.int (-i)) 1, (fun i j : Int => V.int (i ^ j.toNat)) 10 15, V.ref q1, V.ref q2, V.ref q3, V.ref q4, V.ref q5]) nml
      have eml : upd J5 ml (.lst [V.non, V.bl true, V.bl false, V.int 0, V.int 1, (fun i : Int => V.int (-i)) 1, (fun i j : Int => V.int (i ^ j.toNat)) 10 15, V.ref q1, V.ref q2, V.ref q3, V.ref q4, V.ref q5]) ml = some (.lst [V.non, V.bl true, V.bl false, V.int 0, V.int 1, (fun i : Int => V.int (-i)) 1, (fun i j : Int => V.int (i ^ j.toNat)) 10 15, V.ref q1, V.ref q2, V.ref q3, V.ref q4, V.ref q5]) := upd_same
      generalize upd J5 ml _ = J6 at zml eml ⊢
      have zz : Same I1 J6 := ((((zq1.trans zq2).trans zq3).trans zq4).trans zq5).trans zml
      have hP4 := hP3.same zz
      have G4 := G3.same zz
      have M4 := M3.same zz
      have k4 : KeepP p H J6 := k3.trans (.of zz)
      have fq1 := ((((zq2.trans zq3).trans zq4).trans zq5).trans zml) _ _ eq1
      have fq2 := (((zq3.trans zq4).trans zq5).trans zml) _ _ eq2
      have fq3 := ((zq4.trans zq5).trans zml) _ _ eq3
      have fq4 := (zq5.trans zml) _ _ eq4
      have fq5 := zml _ _ eq5
      refine ⟨p, ml, _, a3, b, c3, rfl, hP4, eml, (fun z => by rw [z, hP4.at_] at eml; cases eml), (by simp), (by simp), (by omega), fun v6 a6 c6 J7 hv hP6 hc6 k6 => ?_⟩
      have pl6 : Plain K CP J7 v6 := by
        refine Plain.keep (H := J6) k6 hP4.at_ hP6.at_ ?_
        simp only [List.mem_cons, List.not_mem_nil, or_false] at hv
        rcases hv with rfl | rfl | rfl | rfl | rfl | rfl | rfl | rfl | rfl | rfl | rfl | rfl
        · exact ⟨_, .base .non, N.none⟩
        · exact ⟨_, .base (.bl _), N.bool⟩
        · exact ⟨_, .base (.bl _), N.bool⟩
        · exact ⟨_, .base (.int _), N.int⟩
        · exact ⟨_, .base (.int _), N.int⟩
        · exact ⟨_, .base (.int _), N.int⟩
        · exact ⟨_, .base (.int _), N.int⟩
        · exact ⟨_, .base (.tup fq1), N.tuple⟩
        · exact ⟨_, .base (.lst fq2), N.list⟩
        · exact ⟨_, .base (.dK fq3), N.dict⟩
        · exact ⟨_, .base (.tup fq4), N.tuple⟩
        · exact ⟨_, .base (.lst fq5), N.list⟩
      refine ⟨p, v6, a6, b, c6, rfl, hP6, pl6, (by omega), fun v7 a7 c7 J8 pl7 hP7 hc7 k7 => ?_⟩
      have G8 := (G4.keep k6 hP4.at_).keep k7 hP6.at_
      have M8 := (M4.keep k6 hP4.at_).keep k7 hP6.at_
      have k8 : KeepP p H J8 := (k4.trans k6).trans k7
      clear pl6 fq1 fq2 fq3 fq4 fq5 eml zml zq1 zq2 zq3 zq4 zq5 eq1 eq2 eq3 eq4 eq5 zz
      obtain ⟨tt, ty, pt⟩ := pl7
      refine ⟨_, rfl, v7, rfl, .inr ⟨⟨tt, ty, pt.s⟩, fun J9 s9 => ?_⟩⟩
      refine ⟨_, rfl, (by decide), rfl, _, rfl, ?_⟩
      have hP9 := hP7.same s9
      have G9 := G8.same s9
      have M9 := M8.same s9
      have k9 : KeepP p H J9 := k8.trans (.of s9)
      have ty9 := tyx_same s9 ty
      clear hP7 G8 M8 k8 ty s9
      refine ite2 (fun h => absurd h (by decide +kernel)) (fun _ => ?_)
      obtain ⟨dg, g1, g2, g3, g4, hg⟩ := id G9
      refine ⟨_, rfl, _, rfl, x, dg, _, tt, rfl, hg, ty9, pt.n, x, good, v7, tt, false, rfl, G9, ty9, pt.k, (fun h => Bool.noConfusion h), fun _ => ⟨false, rfl, _, rfl, ?_⟩⟩
      refine ite2 (fun h => Bool.noConfusion (show false = true from h)) (fun _ => ?_)
      refine ⟨_, rfl, _, rfl, x, dg, _, tt, rfl, hg, ty9, pt.n, x, good, v7, tt, false, rfl, G9, ty9, pt.k, (fun h => Bool.noConfusion h), fun _ => ⟨false, rfl, _, rfl, ?_⟩⟩
      refine ite2 (fun h => Bool.noConfusion (show false = true from h)) (fun _ => ?_)
      obtain ⟨mp, xs, hm, lx, pr⟩ := M9
      refine ⟨_, rfl, _, rfl, p, m3, xs, a7, b, c7, rfl, hP9, hm, mp, (by omega), (by omega), (by omega), fun vp a10 c10 J10 hvp hP10 hc10 k10 => ?_⟩
      obtain ⟨t, sx, nn, rfl, ht, ok⟩ := (pr vp hvp).keep k10 hP9.at_
      have G10 := G9.keep k10 hP9.at_
      have M10 : MenuAt p 16 J10 m3 := MenuAt.keep k10 hP9.at_ ⟨mp, xs, hm, lx, pr⟩
      have kk10 : KeepP p H J10 := k9.trans k10
      obtain ⟨ft, lo, sz⟩ := pair_of ok
      refine ⟨t, _, rfl, SqT.of ht, rfl, _, _, rfl, _, _, rfl, rfl, ?_⟩
      refine ⟨_, rfl, _, rfl, .inl ⟨sx, rfl, ft, fun J11 s11 => ?_⟩⟩
      have hP11 := hP10.same s11
      have G11 := G10.same s11
      have M11 := M10.same s11
      have k11 : KeepP p H J11 := kk10.trans (.of s11)
      rw [lo]
      refine ⟨nn, rfl, sz, _, rfl, nn, rfl, sz, rfl, _, rfl, ?_⟩
      refine ite2 (fun h => absurd h (by simp)) (fun _ => ?_)
      exact ⟨_, _, _, _, a10, c10, rfl, hP11, by omega, G11, M11, k11⟩
    · rintro σ I1 ⟨u4, u5, u6, u7, a3, c3, rfl, hP3, hc3, G3, M3, k3⟩
      refine ⟨_, rfl, _, rfl, fun y dy ny ndy ney => ⟨y, dy, _, rfl, upd_same, .inl ⟨good, rfl, fits_good, ?_⟩⟩⟩
      rw [good_none]
      intro b1 b2 b3 b4 I2 bb hy
      refine ⟨rfl, ?_⟩
      have sI : Same I1 I2 := fun q o hq => by
        have qx : q ≠ y := ne_of_none hq ny
        have qd : q ≠ dy := ne_of_none hq ndy
        exact bb.keep _ _ (by rw [upd_ne qx, upd_ne qd]; exact hq) (by simpa using qx)
      have G4 := G3.same sI
      have Gy : PgAt CP I2 y good := ⟨dy, b1, b2, b3, b4, hy⟩
      have k4 : KeepP p H I2 := k3.trans (.of sI)
      have tyy : TyX K I2 (.ref y) (.ref CP) := .base (.ins hy CC TE.ha TE.hn TE.htk TE.hm)
      obtain ⟨dg, g1, g2, g3, g4, hg⟩ := id G4
      refine ⟨x, dg, _, .ref CP, rfl, hg, tyy, TE.nP, x, good, .ref y, .ref CP, true, rfl, G4, tyy, TE.kP, (fun _ => ⟨y, good, rfl, Gy, decide (good = good), rfl, ?_⟩), (fun h => Bool.noConfusion h)⟩
      refine ⟨_, rfl, ?_⟩
      refine ite2 (fun _ => ?_) (fun h => absurd (show decide (good = good) = true by simp) h)
      refine ⟨_, rfl, _, rfl, x, dg, _, .type "str", rfl, hg, .base (.str _), TE.sn, x, good, .str good, .type "str", false, rfl, G4, .base (.str _), TE.sk, (fun h => Bool.noConfusion h), fun _ => ⟨false, rfl, ?_⟩⟩
      refine ⟨_, rfl, _, rfl, ?_⟩
      refine ite2 (fun _ => ?_) (fun h => absurd (show (!(id false)) = true from rfl) h)
      refine ⟨_, rfl, .str good, rfl, .inl ⟨good, rfl, fits_good, fun I3 s3 => ?_⟩⟩
      refine ⟨_, rfl, rfl, ?_⟩
      rw [(pair_of p0).2.1]
      exact kk I3 (k4.trans (.of s3))
end
end K7
/-! part D9 -/
set_option Elab.async false
set_option linter.all false
set_option maxRecDepth 100000
set_option maxHeartbeats 2000000
namespace K7
open PySem L2 Rdr LcX MakeS ErrD
abbrev sLaw : Stmt := top 31
def spLaw (K : PySem.W.Frag) : Sp := fun vs H Q _ => ∃ (s : Addr) (ns : List Int), vs = [.ref s] ∧ SqL K H s (ns.map V.int) ∧ ns.length ≤ 63 ∧ ∀ H', Q (.bl true) H'
section
variable {P : Program} {w : World} {K : PySem.W.Frag} {mg : Str → Option Value} {base : Heap} {C cB fB : Addr} {fdB : FuncData}
theorem sc_law : FnScope ["_law_script", "_law_k", "_law_pot_here"] ["_law_script"] (defScope sLaw) := ⟨rfl, rfl, rfl, by decide +kernel, rfl, by decide +kernel, by decide +kernel⟩
theorem ok_law {f : Addr} {fd : FuncData} {k : Nat} (hk : 1 ≤ k) (F : Fun K "law" "law" sLaw f fd) (T : RT K mg C cB fB fdB) (mx : mg "max" = none) (mn : mg "min" = none) (GQ : DOk0 P w K mg base 1 "_law_pot" (spPot K)) (GR : DOk0 P w K mg base k "_law_right" spRight) : FnOk P w K mg base CX0 (k + 1) f fd ["_law_script"] (spLaw K) := by
  refine F.ok sc_law (fun vs H Q E h => ?_) (fun cdv A outer s H vs Q E hr h => ?_)
  · obtain ⟨s, ns, rfl, _⟩ := h
    rfl
  · obtain ⟨s, ns, rfl, hS, hl, kk⟩ := h
    have hr1 : Room 1 _ := hr.mono hk
    refine ⟨_, pss_cons (ps_for PassesOwn.never rfl (pi_range1 rfl T.range (pa_cons (pe_callB (call_max2 rfl) (by rfl) mx (by decide +kernel) (pa_cons pe_int (pa_cons (pe_callB (call_min2 rfl) (by rfl) mn (by decide +kernel) (pa_cons pe_int (pa_cons (pe_callB call_len_seq (by rfl) T.len PySem.boot_len (pa_cons (pv 0) pa_nil)) pa_nil))) pa_nil))) pa_nil)) (pg_name (i := 1) sc_law.nd rfl (Or.inl rfl))
        (pss_cons (ps_set (i := 2) sc_law.nd rfl (Or.inl rfl) (g_call GQ hr1 pass0 (pa_cons (pv 0) (pa_cons (pv 1) pa_nil))))
        (pss_one (ps_if (pt_not (pt_val (g_call GR hr pass0 (pa_cons (pv 2) pa_nil)))) (pss_one (ps_ret pe_bl)) pss_nil))))
      (pss_one (ps_ret pe_bl)), ?_⟩
    refine ⟨_, rfl, s, _, rfl, .inl hS, _, _, rfl, _, _, rfl, _, rfl, ?_⟩
    obtain ⟨m, hm, m0, m1⟩ : ∃ m : Int, m = (if (if ((ns.map V.int).length : Int) < 3 then ((ns.map V.int).length : Int) else 3) > 1 then (if ((ns.map V.int).length : Int) < 3 then ((ns.map V.int).length : Int) else 3) else 1) ∧ 0 ≤ m ∧ m ≤ 3 := ⟨_, rfl, by split <;> omega, by split <;> split <;> omega⟩
    rw [← hm]
    refine ⟨(by omega), (by omega), for_range (lo := 0) (n := m.toNat) (fun i σ H' => ∃ (u1 u2 : Option V), σ = [some (.ref s), u1, u2] ∧ SqL K H' s (ns.map V.int) ∧ Same H H') ⟨none, none, rfl, hS, Same.refl H⟩ ?_ ?_⟩
    · rintro i σ I1 hi ⟨u1, u2, rfl, h1, s1⟩
      refine ⟨_, rfl, _, rfl, s, ns, _, rfl, h1, hl, (by omega), (by omega), fun p a b I2 np hP s2 => ?_⟩
      have h2 := h1.ext s2
      refine ⟨_, rfl, p, a, b, 0, rfl, hP, Int.le_refl 0, fun I3 k3 => ?_⟩
      have s3 : Same I1 I3 := fun q o hq => k3 q o (s2 _ _ hq) (ne_of_none hq np)
      refine ⟨_, rfl, ?_⟩
      refine ite2 (fun h => Bool.noConfusion (show false = true from h)) (fun _ => ?_)
      exact ⟨_, _, rfl, h1.ext s3, s1.trans s3⟩
    · rintro σ I1 ⟨u1, u2, rfl, h1, s1⟩
      exact kk I1
end
end K7
/-! part F1 -/
set_option Elab.async false
set_option linter.all false
set_option maxRecDepth 100000
set_option maxHeartbeats 4000000
namespace K7
open PySem L2 Rdr LcX MakeS ErrD
abbrev P : Program := PySem.Challenge.pw_handkept_k07_texts_of_any_value
theorem all_mk {w : World} {K : PySem.W.Frag} {h : Heap} {mg : Str → Option Value} {fa : Addr} (X : K.In h) (G : h.Ns mainGlobals mg) (hfa : mg "law" = some (.ref fa))
    {C CP cP cB cK aW fru cru cc fbi fpa fiw fpi fwa fbe fne frd frk frf frp fpl frc frb frs fri fls fhs fws fcw frr fgi fge flp flt flo fll fln flr fla fli : Addr} {clru : List (Str × Addr)} {ocbi kVbi dcbi pmbi cdbi ctbi ocpa kVpa dcpa pmpa cdpa ctpa ociw kViw dciw pmiw cdiw ctiw ocpi kVpi dcpi pmpi cdpi ctpi ocwa kVwa dcwa pmwa cdwa ctwa ocbe kVbe dcbe pmbe cdbe ctbe ocne kVne dcne pmne cdne ctne ocrd kVrd dcrd pmrd cdrd ctrd ocrk kVrk dcrk pmrk cdrk ctrk ocrf kVrf dcrf pmrf cdrf ctrf ocrp kVrp dcrp pmrp cdrp ctrp ocpl kVpl dcpl pmpl cdpl ctpl ocrc kVrc dcrc pmrc cdrc ctrc ocrb kVrb dcrb pmrb cdrb ctrb ocrs kVrs dcrs pmrs cdrs ctrs ocri kVri dcri pmri cdri ctri ocls kVls dcls pmls cdls ctls ochs kVhs dchs pmhs cdhs cths ocws kVws dcws pmws cdws ctws occw kVcw dccw pmcw cdcw ctcw ocrr kVrr dcrr pmrr cdrr ctrr ocgi kVgi dcgi pmgi cdgi ctgi ocge kVge dcge pmge cdge ctge oclp kVlp dclp pmlp cdlp ctlp oclt kVlt dclt pmlt cdlt ctlt oclo kVlo dclo pmlo cdlo ctlo ocll kVll dcll pmll cdll ctll ocln kVln dcln pmln cdln ctln oclr kVlr dclr pmlr cdlr ctlr ocla kVla dcla pmla cdla ctla ocli kVli dcli pmli cdli ctli ocru dcru pmru ctru occ occo : Value} {odbi odpa odiw odpi odwa odbe odne odrd odrk odrf odrp odpl odrc odrb odrs odri odls odhs odws odcw odrr odgi odge odlp odlt odlo odll odln odlr odla odli anbi anpa aniw anpi anwa anbe anne anrd anrk anrf anrp anpl anrc anrb anrs anri anls anhs anws ancw anrr angi ange anlp anlt anlo anll anln anlr anla anli odru odc odco ddW ddB : Option Addr} {slbi slpa sliw slpi slwa slbe slne slrd slrk slrf slrp slpl slrc slrb slrs slri slls slhs slws slcw slrr slgi slge sllp sllt sllo slll slln sllr slla slli slru slc slco slW : Array (Option Value)} {vsco : Array Value} {file : Str}
    {tf w1 w2 tBLANKS tMOST_LETTERS tMOST_KINDS tMOST_KINDS_IN_ONE_ANOTHER tMOST_FIELDS tMOST_PASSES tMOST_CELLS tMOST_STATEMENTS tMOST_IFS_IN_ONE_ANOTHER tMOST_TOKENS : Tok} {nnW : Nat} {nmB qB : Str} {NB : Addr} {bsB bmB : List Value} {snB : List Str} {subB : List Value} {abB : Bool} {colB : Option Bool} {b0 b1 b2 b3 b5 : Option Value}
    (nC : PySem.W.nsIn K mainGlobals "ProgramReader" = some (some (.ref C)))
    (nCP : PySem.W.nsIn K mainGlobals "Program" = some (some (.ref CP)))
    (ncP : PySem.W.nsIn K mainGlobals "Part" = some (some (.ref cP)))
    (ncB : PySem.W.nsIn K mainGlobals "BadText" = some (some (.ref cB)))
    (ncK : PySem.W.nsIn K mainGlobals "KeptError" = some (some (.ref cK)))
    (abi : PySem.W.findIn K (.ref cB) "__init__" = some (some (.ref fbi)))
    (ibi : PySem.W.isFn K (.ref fbi) = true)
    (lbi : K.lookup fbi = some ⟨ocbi, odbi, .func (PySem.W.fnOf "__init__" "BadText.__init__" (defArgs sBadInit) (defBody sBadInit) (defScope sBadInit) .none kVbi dcbi pmbi anbi cdbi ctbi), slbi⟩)
    (cbi : PySem.W.codeIn K cdbi "BadText.__init__" = true)
    (kbi : PySem.W.keepIn K (.ref fbi) = true)
    (apa : PySem.W.nsIn K mainGlobals "_parted" = some (some (.ref fpa)))
    (lpa : K.lookup fpa = some ⟨ocpa, odpa, .func (PySem.W.fnOf "_parted" "_parted" (defArgs sParted) (defBody sParted) (defScope sParted) .none kVpa dcpa pmpa anpa cdpa ctpa), slpa⟩)
    (cpa : PySem.W.codeIn K cdpa "_parted" = true)
    (kpa : PySem.W.keepIn K (.ref fpa) = true)
    (aiw : PySem.W.nsIn K mainGlobals "is_word" = some (some (.ref fiw)))
    (liw : K.lookup fiw = some ⟨ociw, odiw, .func (PySem.W.fnOf "is_word" "is_word" (defArgs sIsWord) (defBody sIsWord) (defScope sIsWord) .none kViw dciw pmiw aniw cdiw ctiw), sliw⟩)
    (ciw : PySem.W.codeIn K cdiw "is_word" = true)
    (kiw : PySem.W.keepIn K (.ref fiw) = true)
    (api : PySem.W.findIn K (.ref cP) "__init__" = some (some (.ref fpi)))
    (ipi : PySem.W.isFn K (.ref fpi) = true)
    (lpi : K.lookup fpi = some ⟨ocpi, odpi, .func (PySem.W.fnOf "__init__" "Part.__init__" (defArgs sPartInit) (defBody sPartInit) (defScope sPartInit) .none kVpi dcpi pmpi anpi cdpi ctpi), slpi⟩)
    (cpi : PySem.W.codeIn K cdpi "Part.__init__" = true)
    (kpi : PySem.W.keepIn K (.ref fpi) = true)
    (awa : PySem.W.findIn K (.ref C) "words_at" = some (some (.ref fwa)))
    (iwa : PySem.W.isFn K (.ref fwa) = true)
    (lwa : K.lookup fwa = some ⟨ocwa, odwa, .func (PySem.W.fnOf "words_at" "Lines.words_at" (defArgs sWordsAt) (defBody sWordsAt) (defScope sWordsAt) .none kVwa dcwa pmwa anwa cdwa ctwa), slwa⟩)
    (cwa : PySem.W.codeIn K cdwa "Lines.words_at" = true)
    (kwa : PySem.W.keepIn K (.ref fwa) = true)
    (abe : PySem.W.findIn K (.ref C) "begins" = some (some (.ref fbe)))
    (ibe : PySem.W.isFn K (.ref fbe) = true)
    (lbe : K.lookup fbe = some ⟨ocbe, odbe, .func (PySem.W.fnOf "begins" "Lines.begins" (defArgs sBegins) (defBody sBegins) (defScope sBegins) .none kVbe dcbe pmbe anbe cdbe ctbe), slbe⟩)
    (cbe : PySem.W.codeIn K cdbe "Lines.begins" = true)
    (kbe : PySem.W.keepIn K (.ref fbe) = true)
    (ane : PySem.W.findIn K (.ref C) "need" = some (some (.ref fne)))
    (ine : PySem.W.isFn K (.ref fne) = true)
    (lne : K.lookup fne = some ⟨ocne, odne, .func (PySem.W.fnOf "need" "Lines.need" (defArgs sNeed) (defBody sNeed) (defScope sNeed) .none kVne dcne pmne anne cdne ctne), slne⟩)
    (cne : PySem.W.codeIn K cdne "Lines.need" = true)
    (kne : PySem.W.keepIn K (.ref fne) = true)
    (ard : PySem.W.findIn K (.ref C) "read" = some (some (.ref frd)))
    (ird : PySem.W.isFn K (.ref frd) = true)
    (lrd : K.lookup frd = some ⟨ocrd, odrd, .func (PySem.W.fnOf "read" "ProgramReader.read" (defArgs sRead) (defBody sRead) (defScope sRead) .none kVrd dcrd pmrd anrd cdrd ctrd), slrd⟩)
    (crd : PySem.W.codeIn K cdrd "ProgramReader.read" = true)
    (krd : PySem.W.keepIn K (.ref frd) = true)
    (ark : PySem.W.findIn K (.ref C) "read_kind" = some (some (.ref frk)))
    (irk : PySem.W.isFn K (.ref frk) = true)
    (lrk : K.lookup frk = some ⟨ocrk, odrk, .func (PySem.W.fnOf "read_kind" "ProgramReader.read_kind" (defArgs sKind) (defBody sKind) (defScope sKind) .none kVrk dcrk pmrk anrk cdrk ctrk), slrk⟩)
    (crk : PySem.W.codeIn K cdrk "ProgramReader.read_kind" = true)
    (krk : PySem.W.keepIn K (.ref frk) = true)
    (arf : PySem.W.findIn K (.ref C) "read_fields" = some (some (.ref frf)))
    (irf : PySem.W.isFn K (.ref frf) = true)
    (lrf : K.lookup frf = some ⟨ocrf, odrf, .func (PySem.W.fnOf "read_fields" "ProgramReader.read_fields" (defArgs sFields) (defBody sFields) (defScope sFields) .none kVrf dcrf pmrf anrf cdrf ctrf), slrf⟩)
    (crf : PySem.W.codeIn K cdrf "ProgramReader.read_fields" = true)
    (krf : PySem.W.keepIn K (.ref frf) = true)
    (arp : PySem.W.findIn K (.ref C) "read_part" = some (some (.ref frp)))
    (irp : PySem.W.isFn K (.ref frp) = true)
    (lrp : K.lookup frp = some ⟨ocrp, odrp, .func (PySem.W.fnOf "read_part" "ProgramReader.read_part" (defArgs sPart) (defBody sPart) (defScope sPart) .none kVrp dcrp pmrp anrp cdrp ctrp), slrp⟩)
    (crp : PySem.W.codeIn K cdrp "ProgramReader.read_part" = true)
    (krp : PySem.W.keepIn K (.ref frp) = true)
    (apl : PySem.W.findIn K (.ref C) "places" = some (some (.ref fpl)))
    (ipl : PySem.W.isFn K (.ref fpl) = true)
    (lpl : K.lookup fpl = some ⟨ocpl, odpl, .func (PySem.W.fnOf "places" "ProgramReader.places" (defArgs sPlaces) (defBody sPlaces) (defScope sPlaces) .none kVpl dcpl pmpl anpl cdpl ctpl), slpl⟩)
    (cpl : PySem.W.codeIn K cdpl "ProgramReader.places" = true)
    (kpl : PySem.W.keepIn K (.ref fpl) = true)
    (arc : PySem.W.findIn K (.ref C) "read_cell" = some (some (.ref frc)))
    (irc : PySem.W.isFn K (.ref frc) = true)
    (lrc : K.lookup frc = some ⟨ocrc, odrc, .func (PySem.W.fnOf "read_cell" "ProgramReader.read_cell" (defArgs sCell) (defBody sCell) (defScope sCell) .none kVrc dcrc pmrc anrc cdrc ctrc), slrc⟩)
    (crc : PySem.W.codeIn K cdrc "ProgramReader.read_cell" = true)
    (krc : PySem.W.keepIn K (.ref frc) = true)
    (arb : PySem.W.findIn K (.ref C) "read_block" = some (some (.ref frb)))
    (irb : PySem.W.isFn K (.ref frb) = true)
    (lrb : K.lookup frb = some ⟨ocrb, odrb, .func (PySem.W.fnOf "read_block" "ProgramReader.read_block" (defArgs sBlock) (defBody sBlock) (defScope sBlock) .none kVrb dcrb pmrb anrb cdrb ctrb), slrb⟩)
    (crb : PySem.W.codeIn K cdrb "ProgramReader.read_block" = true)
    (krb : PySem.W.keepIn K (.ref frb) = true)
    (ars : PySem.W.findIn K (.ref C) "read_statement" = some (some (.ref frs)))
    (irs : PySem.W.isFn K (.ref frs) = true)
    (lrs : K.lookup frs = some ⟨ocrs, odrs, .func (PySem.W.fnOf "read_statement" "ProgramReader.read_statement" (defArgs sStm) (defBody sStm) (defScope sStm) .none kVrs dcrs pmrs anrs cdrs ctrs), slrs⟩)
    (crs : PySem.W.codeIn K cdrs "ProgramReader.read_statement" = true)
    (krs : PySem.W.keepIn K (.ref frs) = true)
    (ari : PySem.W.findIn K (.ref C) "read_if" = some (some (.ref fri)))
    (iri : PySem.W.isFn K (.ref fri) = true)
    (lri : K.lookup fri = some ⟨ocri, odri, .func (PySem.W.fnOf "read_if" "ProgramReader.read_if" (defArgs sIf) (defBody sIf) (defScope sIf) .none kVri dcri pmri anri cdri ctri), slri⟩)
    (cri : PySem.W.codeIn K cdri "ProgramReader.read_if" = true)
    (kri : PySem.W.keepIn K (.ref fri) = true)
    (als : PySem.W.findIn K (.ref C) "line_statement" = some (some (.ref fls)))
    (ils : PySem.W.isFn K (.ref fls) = true)
    (lls : K.lookup fls = some ⟨ocls, odls, .func (PySem.W.fnOf "line_statement" "ProgramReader.line_statement" (defArgs sLine) (defBody sLine) (defScope sLine) .none kVls dcls pmls anls cdls ctls), slls⟩)
    (cls : PySem.W.codeIn K cdls "ProgramReader.line_statement" = true)
    (kls : PySem.W.keepIn K (.ref fls) = true)
    (ahs : PySem.W.findIn K (.ref C) "head_statement" = some (some (.ref fhs)))
    (ihs : PySem.W.isFn K (.ref fhs) = true)
    (lhs : K.lookup fhs = some ⟨ochs, odhs, .func (PySem.W.fnOf "head_statement" "ProgramReader.head_statement" (defArgs sHead) (defBody sHead) (defScope sHead) .none kVhs dchs pmhs anhs cdhs cths), slhs⟩)
    (chs : PySem.W.codeIn K cdhs "ProgramReader.head_statement" = true)
    (khs : PySem.W.keepIn K (.ref fhs) = true)
    (aws : PySem.W.findIn K (.ref C) "write_statement" = some (some (.ref fws)))
    (iws : PySem.W.isFn K (.ref fws) = true)
    (lws : K.lookup fws = some ⟨ocws, odws, .func (PySem.W.fnOf "write_statement" "ProgramReader.write_statement" (defArgs sWrite) (defBody sWrite) (defScope sWrite) .none kVws dcws pmws anws cdws ctws), slws⟩)
    (cws : PySem.W.codeIn K cdws "ProgramReader.write_statement" = true)
    (kws : PySem.W.keepIn K (.ref fws) = true)
    (acw : PySem.W.findIn K (.ref C) "cell_worth" = some (some (.ref fcw)))
    (icw : PySem.W.isFn K (.ref fcw) = true)
    (lcw : K.lookup fcw = some ⟨occw, odcw, .func (PySem.W.fnOf "cell_worth" "ProgramReader.cell_worth" (defArgs sCellWorth) (defBody sCellWorth) (defScope sCellWorth) .none kVcw dccw pmcw ancw cdcw ctcw), slcw⟩)
    (ccw : PySem.W.codeIn K cdcw "ProgramReader.cell_worth" = true)
    (kcw : PySem.W.keepIn K (.ref fcw) = true)
    (arr : PySem.W.findIn K (.ref C) "ref_of" = some (some (.ref frr)))
    (irr : PySem.W.isFn K (.ref frr) = true)
    (lrr : K.lookup frr = some ⟨ocrr, odrr, .func (PySem.W.fnOf "ref_of" "ProgramReader.ref_of" (defArgs sRefOf) (defBody sRefOf) (defScope sRefOf) .none kVrr dcrr pmrr anrr cdrr ctrr), slrr⟩)
    (crr : PySem.W.codeIn K cdrr "ProgramReader.ref_of" = true)
    (krr : PySem.W.keepIn K (.ref frr) = true)
    (agi : PySem.W.findIn K (.ref CP) "__init__" = some (some (.ref fgi)))
    (igi : PySem.W.isFn K (.ref fgi) = true)
    (lgi : K.lookup fgi = some ⟨ocgi, odgi, .func (PySem.W.fnOf "__init__" "Program.__init__" (defArgs sPgInit) (defBody sPgInit) (defScope sPgInit) .none kVgi dcgi pmgi angi cdgi ctgi), slgi⟩)
    (cgi : PySem.W.codeIn K cdgi "Program.__init__" = true)
    (kgi : PySem.W.keepIn K (.ref fgi) = true)
    (age : PySem.W.findIn K (.ref CP) "__eq__" = some (some (.ref fge)))
    (ige : PySem.W.isFn K (.ref fge) = true)
    (lge : K.lookup fge = some ⟨ocge, odge, .func (PySem.W.fnOf "__eq__" "Program.__eq__" (defArgs sPgEq) (defBody sPgEq) (defScope sPgEq) .none kVge dcge pmge ange cdge ctge), slge⟩)
    (cge : PySem.W.codeIn K cdge "Program.__eq__" = true)
    (kge : PySem.W.keepIn K (.ref fge) = true)
    (alp : PySem.W.nsIn K mainGlobals "_law_pot" = some (some (.ref flp)))
    (llp : K.lookup flp = some ⟨oclp, odlp, .func (PySem.W.fnOf "_law_pot" "_law_pot" (defArgs sPot) (defBody sPot) (defScope sPot) .none kVlp dclp pmlp anlp cdlp ctlp), sllp⟩)
    (clp : PySem.W.codeIn K cdlp "_law_pot" = true)
    (klp : PySem.W.keepIn K (.ref flp) = true)
    (alt : PySem.W.nsIn K mainGlobals "_law_take" = some (some (.ref flt)))
    (llt : K.lookup flt = some ⟨oclt, odlt, .func (PySem.W.fnOf "_law_take" "_law_take" (defArgs sTake) (defBody sTake) (defScope sTake) .none kVlt dclt pmlt anlt cdlt ctlt), sllt⟩)
    (clt : PySem.W.codeIn K cdlt "_law_take" = true)
    (klt : PySem.W.keepIn K (.ref flt) = true)
    (alo : PySem.W.nsIn K mainGlobals "_law_of" = some (some (.ref flo)))
    (llo : K.lookup flo = some ⟨oclo, odlo, .func (PySem.W.fnOf "_law_of" "_law_of" (defArgs sOf) (defBody sOf) (defScope sOf) .none kVlo dclo pmlo anlo cdlo ctlo), sllo⟩)
    (clo : PySem.W.codeIn K cdlo "_law_of" = true)
    (klo : PySem.W.keepIn K (.ref flo) = true)
    (all : PySem.W.nsIn K mainGlobals "_law_line_of" = some (some (.ref fll)))
    (lll : K.lookup fll = some ⟨ocll, odll, .func (PySem.W.fnOf "_law_line_of" "_law_line_of" (defArgs sLineOf) (defBody sLineOf) (defScope sLineOf) .none kVll dcll pmll anll cdll ctll), slll⟩)
    (cll : PySem.W.codeIn K cdll "_law_line_of" = true)
    (kll : PySem.W.keepIn K (.ref fll) = true)
    (aln : PySem.W.nsIn K mainGlobals "_law_nested" = some (some (.ref fln)))
    (lln : K.lookup fln = some ⟨ocln, odln, .func (PySem.W.fnOf "_law_nested" "_law_nested" (defArgs sNested) (defBody sNested) (defScope sNested) .none kVln dcln pmln anln cdln ctln), slln⟩)
    (cln : PySem.W.codeIn K cdln "_law_nested" = true)
    (kln : PySem.W.keepIn K (.ref fln) = true)
    (alr : PySem.W.nsIn K mainGlobals "_law_right" = some (some (.ref flr)))
    (llr : K.lookup flr = some ⟨oclr, odlr, .func (PySem.W.fnOf "_law_right" "_law_right" (defArgs sRight) (defBody sRight) (defScope sRight) .none kVlr dclr pmlr anlr cdlr ctlr), sllr⟩)
    (clr : PySem.W.codeIn K cdlr "_law_right" = true)
    (klr : PySem.W.keepIn K (.ref flr) = true)
    (ala : PySem.W.nsIn K mainGlobals "law" = some (some (.ref fla)))
    (lla : K.lookup fla = some ⟨ocla, odla, .func (PySem.W.fnOf "law" "law" (defArgs sLaw) (defBody sLaw) (defScope sLaw) .none kVla dcla pmla anla cdla ctla), slla⟩)
    (cla : PySem.W.codeIn K cdla "law" = true)
    (kla : PySem.W.keepIn K (.ref fla) = true)
    (aru : PySem.W.findIn K (.ref C) "__init__" = some (some (.ref fru)))
    (iru : PySem.W.isFn K (.ref fru) = true)
    (lru : K.lookup fru = some ⟨ocru, odru, .func (PySem.W.fnX "__init__" "ProgramReader.__init__" (defArgs sRdInit) (defBody sRdInit) (defScope sRdInit) clru .none .none dcru pmru none (.ref cru) ctru), slru⟩)
    (cruF : PySem.W.codeIn K (.ref cru) "ProgramReader.__init__" = true)
    (sln : PySem.W.ks_superIn K C C "__init__" = some (some (.ref fli)))
    (tln : PySem.W.typeIn K (.ref fli) = some (.type "function"))
    (fln : PySem.W.fnIn K fli = true)
    (lli : K.lookup fli = some ⟨ocli, odli, .func (PySem.W.fnOf "__init__" "Lines.__init__" (defArgs sLnInit) (defBody sLnInit) (defScope sLnInit) .none kVli dcli pmli anli cdli ctli), slli⟩)
    (cli : PySem.W.codeIn K cdli "Lines.__init__" = true)
    (kli : PySem.W.keepIn K (.ref fli) = true)
    (xce : clru = [(("__class__" : Str), cc)])
    (lce : K.lookup cc = some ⟨occ, odc, .cell (some (.ref C)), slc⟩)
    (lco : K.lookup cru = some ⟨occo, odco, .fields vsco, slco⟩)
    (vco : vsco[2]? = some (.str file tf))
    (fco : ((P.main.file : Str) == file) = true)
    (sub : PySem.W.mroIn K C (.ref C) = some true)
    (zsu : PySem.W.nsIn K mainGlobals "super" = some none)
    (thi : PySem.W.nsIn K cStatics "thirdparty.any" = some none)
    (zlen : PySem.W.nsIn K mainGlobals "len" = some none)
    (ztuple : PySem.W.nsIn K mainGlobals "tuple" = some none)
    (zint : PySem.W.nsIn K mainGlobals "int" = some none)
    (zstr : PySem.W.nsIn K mainGlobals "str" = some none)
    (zrange : PySem.W.nsIn K mainGlobals "range" = some none)
    (zall : PySem.W.nsIn K mainGlobals "all" = some none)
    (zisinstance : PySem.W.nsIn K mainGlobals "isinstance" = some none)
    (zabs : PySem.W.nsIn K mainGlobals "abs" = some none)
    (zValueError : PySem.W.nsIn K mainGlobals "ValueError" = some none)
    (zrepr : PySem.W.nsIn K mainGlobals "repr" = some none)
    (zmax : PySem.W.nsIn K mainGlobals "max" = some none)
    (zmin : PySem.W.nsIn K mainGlobals "min" = some none)
    (vBLANKS : PySem.W.nsIn K mainGlobals "BLANKS" = some (some (.int 2 tBLANKS)))
    (vMOST_LETTERS : PySem.W.nsIn K mainGlobals "MOST_LETTERS" = some (some (.int 8 tMOST_LETTERS)))
    (vMOST_KINDS : PySem.W.nsIn K mainGlobals "MOST_KINDS" = some (some (.int 4 tMOST_KINDS)))
    (vMOST_KINDS_IN_ONE_ANOTHER : PySem.W.nsIn K mainGlobals "MOST_KINDS_IN_ONE_ANOTHER" = some (some (.int 3 tMOST_KINDS_IN_ONE_ANOTHER)))
    (vMOST_FIELDS : PySem.W.nsIn K mainGlobals "MOST_FIELDS" = some (some (.int 2 tMOST_FIELDS)))
    (vMOST_PASSES : PySem.W.nsIn K mainGlobals "MOST_PASSES" = some (some (.int 2 tMOST_PASSES)))
    (vMOST_CELLS : PySem.W.nsIn K mainGlobals "MOST_CELLS" = some (some (.int 2 tMOST_CELLS)))
    (vMOST_STATEMENTS : PySem.W.nsIn K mainGlobals "MOST_STATEMENTS" = some (some (.int 6 tMOST_STATEMENTS)))
    (vMOST_IFS_IN_ONE_ANOTHER : PySem.W.nsIn K mainGlobals "MOST_IFS_IN_ONE_ANOTHER" = some (some (.int 2 tMOST_IFS_IN_ONE_ANOTHER)))
    (vMOST_TOKENS : PySem.W.nsIn K mainGlobals "MOST_TOKENS" = some (some (.int 6 tMOST_TOKENS)))
    (nW : PySem.W.nsIn K mainGlobals "WORTHS" = some (some (.ref aW)))
    (lW : K.lookup aW = some ⟨.type "tuple", ddW, .seq #[.str "2" w1, .str "3" w2] nnW, slW⟩)
    (pgC : PySem.W.plainGet K C Str.empty = true)
    (hdC : PySem.W.hasDictIn K C = true)
    (poC : PySem.W.plainOver K C = true)
    (saC : PySem.W.findIn K (.ref C) "__setattr__" = some (some (.builtin "object.__setattr__")))
    (mkC : PySem.W.makesIn K C = true)
    (kcC : PySem.W.keepIn K (.ref C) = true)
    (pgcP : PySem.W.plainGet K cP Str.empty = true)
    (hdcP : PySem.W.hasDictIn K cP = true)
    (pocP : PySem.W.plainOver K cP = true)
    (sacP : PySem.W.findIn K (.ref cP) "__setattr__" = some (some (.builtin "object.__setattr__")))
    (mkcP : PySem.W.makesIn K cP = true)
    (kccP : PySem.W.keepIn K (.ref cP) = true)
    (pgCP : PySem.W.plainGet K CP Str.empty = true)
    (hdCP : PySem.W.hasDictIn K CP = true)
    (poCP : PySem.W.plainOver K CP = true)
    (saCP : PySem.W.findIn K (.ref CP) "__setattr__" = some (some (.builtin "object.__setattr__")))
    (mkCP : PySem.W.makesIn K CP = true)
    (kcCP : PySem.W.keepIn K (.ref CP) = true)
    (nC_lines : PySem.W.findIn K (.ref C) "lines" = some none)
    (nC_at : PySem.W.findIn K (.ref C) "at" = some none)
    (nC_kinds : PySem.W.findIn K (.ref C) "kinds" = some none)
    (nC_chains : PySem.W.findIn K (.ref C) "chains" = some none)
    (nC_fields : PySem.W.findIn K (.ref C) "fields" = some none)
    (nC_labels : PySem.W.findIn K (.ref C) "labels" = some none)
    (nC_parts : PySem.W.findIn K (.ref C) "parts" = some none)
    (nC_cells : PySem.W.findIn K (.ref C) "cells" = some none)
    (nC_worths : PySem.W.findIn K (.ref C) "worths" = some none)
    (nC_near : PySem.W.findIn K (.ref C) "near" = some none)
    (nP_worths : PySem.W.findIn K (.ref cP) "worths" = some none)
    (nP_blocks : PySem.W.findIn K (.ref cP) "blocks" = some none)
    (nG_text : PySem.W.findIn K (.ref CP) "text" = some none)
    (nG_kinds : PySem.W.findIn K (.ref CP) "kinds" = some none)
    (nG_labels : PySem.W.findIn K (.ref CP) "labels" = some none)
    (nG_passes : PySem.W.findIn K (.ref CP) "passes" = some none)
    (nG_parts : PySem.W.findIn K (.ref CP) "parts" = some none)
    (xB : K.lookup cB = some (excClassObj nmB qB cB NB bsB bmB true snB subB abB colB ddB b0 b1 b2 b3 b5 "ValueError.__new__"))
    (rB : PySem.HandSPX.refsVE bmB = true)
    (saB : PySem.W.findIn K (.ref cB) "__setattr__" = some (some (.builtin "object.__setattr__")))
    (exB : PySem.W.subIn K (.ref cB) (.type "BaseException") = some true)
    (tyB : PySem.W.typeIn K (.ref cB) = some (.type "type"))
    (kB : PySem.W.keepIn K (.ref cB) = true)
    (tbi : PySem.W.typeIn K (.ref fbi) = some (.type "function"))
    (nlB : PySem.W.findIn K (.ref cB) "line" = some none)
    (gaB : PySem.W.findIn K (.ref cB) "__getattribute__" = some (some (.builtin "BaseException.__getattribute__")))
    (ggB : PySem.W.findIn K (.ref cB) "__getattr__" = some none)
    (hdB : PySem.W.hasDictIn K cB = true)
    (haB : PySem.W.findIn K (.ref cB) "__class__" = some (some (.builtin "object.__class__")))
    (hnB : PySem.W.specialIn K (.builtin "object.__class__") "__get__" = some (some (.builtin "getset_descriptor.__get__")))
    (htB : PySem.W.takesIn K (.builtin "object.__class__") = some true)
    (hmB : PySem.W.mroIn K cB (.type "object") = some true)
    (exK : PySem.W.subIn K (.ref cK) (.type "BaseException") = some true)
    (hdK : PySem.W.hasDictIn K cK = true)
    (tyK : PySem.W.typeIn K (.ref cK) = some (.type "type"))
    (sBK : PySem.W.subIn K (.ref cB) (.ref cK) = some true)
    (kB1 : PySem.W.kitOne K (.ref cB) (.ref cB) = some true)
    (kB2 : PySem.W.kitOne K (.ref cB) (.type "ValueError") = some true)
    (hsn : PySem.W.findIn K (.ref CP) "__ne__" = some (some (.builtin "object.__ne__")))
    (hmP : PySem.W.mroIn K CP (.type "object") = some true)
    (haP : PySem.W.findIn K (.ref CP) "__class__" = some (some (.builtin "object.__class__")))
    (kPP : PySem.W.kitOne K (.ref CP) (.ref CP) = some true)
    (nPP : PySem.W.notFirst K CP (.ref CP) = true)
    (q_str : PySem.W.kitOne K (.type "str") (.ref CP) = some false)
    (r_str : PySem.W.notFirst K CP (.type "str") = true)
    (q_tuple : PySem.W.kitOne K (.type "tuple") (.ref CP) = some false)
    (r_tuple : PySem.W.notFirst K CP (.type "tuple") = true)
    (q_list : PySem.W.kitOne K (.type "list") (.ref CP) = some false)
    (r_list : PySem.W.notFirst K CP (.type "list") = true)
    (q_dict : PySem.W.kitOne K (.type "dict") (.ref CP) = some false)
    (r_dict : PySem.W.notFirst K CP (.type "dict") = true)
    (q_NoneType : PySem.W.kitOne K (.type "NoneType") (.ref CP) = some false)
    (r_NoneType : PySem.W.notFirst K CP (.type "NoneType") = true)
    (q_bool : PySem.W.kitOne K (.type "bool") (.ref CP) = some false)
    (r_bool : PySem.W.notFirst K CP (.type "bool") = true)
    (q_int : PySem.W.kitOne K (.type "int") (.ref CP) = some false)
    (r_int : PySem.W.notFirst K CP (.type "int") = true)
    : ∃ fd : FuncData, (∀ (s : Shared) (v : Value), BindsTo s fd ⟨[v], []⟩ [("_law_script", v)]) ∧ ∀ base : Heap, K.In base → base.Ns mainGlobals mg → FnOk P w K mg base CX0 21 fa fd ["_law_script"] (spLaw K) := by
  have e := hfa.symm.trans (PySem.W.mg_of X G ala)
  cases e
  have Fbi := fun_mk (st := sBadInit) lbi cbi kbi
  have bbi := Fbi.binds (ps := ["self", "line"]) fun _ _ _ _ _ _ us hl => match us, hl with | [_, _], _ => rfl
  have Fpa := fun_mk (st := sParted) lpa cpa kpa
  have bpa := Fpa.binds (ps := ["line"]) fun _ _ _ _ _ _ us hl => match us, hl with | [_], _ => rfl
  have Fiw := fun_mk (st := sIsWord) liw ciw kiw
  have biw := Fiw.binds (ps := ["value"]) fun _ _ _ _ _ _ us hl => match us, hl with | [_], _ => rfl
  have Fpi := fun_mk (st := sPartInit) lpi cpi kpi
  have bpi := Fpi.binds (ps := ["self", "worths", "blocks"]) fun _ _ _ _ _ _ us hl => match us, hl with | [_, _, _], _ => rfl
  have Fwa := fun_mk (st := sWordsAt) lwa cwa kwa
  have bwa := Fwa.binds (ps := ["self", "depth"]) fun _ _ _ _ _ _ us hl => match us, hl with | [_, _], _ => rfl
  have Fbe := fun_mk (st := sBegins) lbe cbe kbe
  have bbe := Fbe.binds (ps := ["self", "depth", "word"]) fun _ _ _ _ _ _ us hl => match us, hl with | [_, _, _], _ => rfl
  have Fne := fun_mk (st := sNeed) lne cne kne
  have bne := Fne.binds (ps := ["self", "holds"]) fun _ _ _ _ _ _ us hl => match us, hl with | [_, _], _ => rfl
  have Frd := fun_mk (st := sRead) lrd crd krd
  have brd := Frd.binds (ps := ["self"]) fun _ _ _ _ _ _ us hl => match us, hl with | [_], _ => rfl
  have Frk := fun_mk (st := sKind) lrk crk krk
  have brk := Frk.binds (ps := ["self", "words"]) fun _ _ _ _ _ _ us hl => match us, hl with | [_, _], _ => rfl
  have Frf := fun_mk (st := sFields) lrf crf krf
  have brf := Frf.binds (ps := ["self"]) fun _ _ _ _ _ _ us hl => match us, hl with | [_], _ => rfl
  have Frp := fun_mk (st := sPart) lrp crp krp
  have brp := Frp.binds (ps := ["self"]) fun _ _ _ _ _ _ us hl => match us, hl with | [_], _ => rfl
  have Fpl := fun_mk (st := sPlaces) lpl cpl kpl
  have bpl := Fpl.binds (ps := ["self"]) fun _ _ _ _ _ _ us hl => match us, hl with | [_], _ => rfl
  have Frc := fun_mk (st := sCell) lrc crc krc
  have brc := Frc.binds (ps := ["self", "words"]) fun _ _ _ _ _ _ us hl => match us, hl with | [_, _], _ => rfl
  have Frb := fun_mk (st := sBlock) lrb crb krb
  have brb := Frb.binds (ps := ["self", "depth", "ifs"]) fun _ _ _ _ _ _ us hl => match us, hl with | [_, _, _], _ => rfl
  have Frs := fun_mk (st := sStm) lrs crs krs
  have brs := Frs.binds (ps := ["self", "words", "depth", "ifs"]) fun _ _ _ _ _ _ us hl => match us, hl with | [_, _, _, _], _ => rfl
  have Fri := fun_mk (st := sIf) lri cri kri
  have bri := Fri.binds (ps := ["self", "words", "depth", "ifs"]) fun _ _ _ _ _ _ us hl => match us, hl with | [_, _, _, _], _ => rfl
  have Fls := fun_mk (st := sLine) lls cls kls
  have bls := Fls.binds (ps := ["self", "words"]) fun _ _ _ _ _ _ us hl => match us, hl with | [_, _], _ => rfl
  have Fhs := fun_mk (st := sHead) lhs chs khs
  have bhs := Fhs.binds (ps := ["self", "words"]) fun _ _ _ _ _ _ us hl => match us, hl with | [_, _], _ => rfl
  have Fws := fun_mk (st := sWrite) lws cws kws
  have bws := Fws.binds (ps := ["self", "label", "kind", "tokens"]) fun _ _ _ _ _ _ us hl => match us, hl with | [_, _, _, _], _ => rfl
  have Fcw := fun_mk (st := sCellWorth) lcw ccw kcw
  have bcw := Fcw.binds (ps := ["self", "cell", "digit"]) fun _ _ _ _ _ _ us hl => match us, hl with | [_, _, _], _ => rfl
  have Frr := fun_mk (st := sRefOf) lrr crr krr
  have brr := Frr.binds (ps := ["self", "text"]) fun _ _ _ _ _ _ us hl => match us, hl with | [_, _], _ => rfl
  have Fgi := fun_mk (st := sPgInit) lgi cgi kgi
  have bgi := Fgi.binds (ps := ["self", "text"]) fun _ _ _ _ _ _ us hl => match us, hl with | [_, _], _ => rfl
  have Fge := fun_mk (st := sPgEq) lge cge kge
  have bge := Fge.binds (ps := ["self", "other"]) fun _ _ _ _ _ _ us hl => match us, hl with | [_, _], _ => rfl
  have Flp := fun_mk (st := sPot) llp clp klp
  have blp := Flp.binds (ps := ["_law_script", "_law_k"]) fun _ _ _ _ _ _ us hl => match us, hl with | [_, _], _ => rfl
  have Flt := fun_mk (st := sTake) llt clt klt
  have blt := Flt.binds (ps := ["_law_pot_here", "_law_upto"]) fun _ _ _ _ _ _ us hl => match us, hl with | [_, _], _ => rfl
  have Flo := fun_mk (st := sOf) llo clo klo
  have blo := Flo.binds (ps := ["_law_pot_here", "_law_some"]) fun _ _ _ _ _ _ us hl => match us, hl with | [_, _], _ => rfl
  have Fll := fun_mk (st := sLineOf) lll cll kll
  have bll := Fll.binds (ps := ["_law_value"]) fun _ _ _ _ _ _ us hl => match us, hl with | [_], _ => rfl
  have Fln := fun_mk (st := sNested) lln cln kln
  have bln := Fln.binds (ps := ["_law_pot_here", "_law_value"]) fun _ _ _ _ _ _ us hl => match us, hl with | [_, _], _ => rfl
  have Flr := fun_mk (st := sRight) llr clr klr
  have blr := Flr.binds (ps := ["_law_pot_here"]) fun _ _ _ _ _ _ us hl => match us, hl with | [_], _ => rfl
  have Fla := fun_mk (st := sLaw) lla cla kla
  have Fli := fun_mk (st := sLnInit) lli cli kli
  have bli := Fli.binds (ps := ["self", "lines"]) fun _ _ _ _ _ _ us hl => match us, hl with | [_, _], _ => rfl
  have oB : OexC K cB := ⟨⟨_, _, _, _, _, _, _, _, _, _, _, _, _, _, _, xB, rB⟩, saB, exB, tyB, kB⟩
  have T : RT K mg C cB fbi _ := ⟨PySem.W.mg_none_of X G zlen, PySem.W.mg_none_of X G ztuple, PySem.W.mg_none_of X G zint, PySem.W.mg_none_of X G zstr, PySem.W.mg_none_of X G zrange, PySem.W.mg_none_of X G zall, PySem.W.mg_none_of X G zisinstance, ⟨_, PySem.W.mg_of X G vBLANKS⟩, ⟨_, PySem.W.mg_of X G vMOST_LETTERS⟩, ⟨pgC, hdC, poC, saC⟩, nC_lines, nC_at, nC_kinds, nC_chains, nC_fields, nC_labels, nC_parts, nC_cells, nC_worths, nC_near, PySem.W.mg_of X G ncB, oB, abi, tbi, nlB, Fbi, bbi⟩
  have TC : RC mg := ⟨⟨_, PySem.W.mg_of X G vMOST_KINDS⟩, ⟨_, PySem.W.mg_of X G vMOST_KINDS_IN_ONE_ANOTHER⟩, ⟨_, PySem.W.mg_of X G vMOST_FIELDS⟩, ⟨_, PySem.W.mg_of X G vMOST_PASSES⟩, ⟨_, PySem.W.mg_of X G vMOST_CELLS⟩, ⟨_, PySem.W.mg_of X G vMOST_STATEMENTS⟩, ⟨_, PySem.W.mg_of X G vMOST_IFS_IN_ONE_ANOTHER⟩, ⟨_, PySem.W.mg_of X G vMOST_TOKENS⟩⟩
  have TW : RW K mg aW := ⟨PySem.W.mg_of X G nW, fun H => .inr ⟨_, _, _, lW, rfl, rfl, (by show 2 ≤ sizeLine; decide), .cons ⟨_, rfl⟩ (.cons ⟨_, rfl⟩ .nil)⟩⟩
  have TQ : RQ K mg cP fpi _ := ⟨⟨⟨pgcP, hdcP, pocP, sacP⟩, nP_worths, nP_blocks⟩, PySem.W.mg_of X G ncP, ⟨mkcP, api, ipi, kccP⟩, Fpi, bpi⟩
  have TS : SupX.Facts P K mg fru fli C C (nfRd clru cru) _ ["self", "text"] :=
    { fn := ⟨_, _, _, dcru, pmru, ctru, rfl, lru⟩, cd := cruF, cell := ⟨cc, _, _, _, xce, lce⟩, code := ⟨_, _, _, _, _, _, lco, vco, fco⟩, par := ⟨_, rfl, rfl⟩, clsD := by
        have z := sub
        unfold PySem.W.mroIn at z
        cases e : PySem.W.clsIn K C with
        | some c => exact ⟨c, rfl⟩
        | none => rw [e] at z; cases z
      sub := sub, mgS := PySem.W.mg_none_of X G zsu, top := by decide +kernel, glS := (show (defScope sRdInit).names.lookup ("super" : Str) = some .globalImplicit by decide +kernel), frC := (show (defScope sRdInit).names.lookup ("__class__" : Str) = some .free by decide +kernel), third := thi, meth := sln, ty := tln, fi := fln }
  have bru : Binds K (PySem.W.fnX "__init__" "ProgramReader.__init__" (defArgs sRdInit) (defBody sRdInit) (defScope sRdInit) clru .none .none dcru pmru none (.ref cru) ctru) ["self", "text"] [] := .all fun us hl => match us, hl with | [_, _], _ => rfl
  have TG : RG K mg C CP fru _ := ⟨⟨pgCP, hdCP, poCP, saCP⟩, nG_text, nG_kinds, nG_labels, nG_passes, nG_parts, PySem.W.mg_of X G nC, ⟨mkC, aru, iru, kcC⟩, bru⟩
  have TL : RL K mg CP cB cK fgi _ := ⟨PySem.W.mg_of X G nCP, ⟨mkCP, agi, igi, kcCP⟩, bgi, PySem.W.mg_of X G ncK, PySem.W.exm_ref exK hdK tyK sBK, ⟨gaB, ggB, exB, hdB, haB, hnB, htB, hmB⟩, ⟨gaB, ggB, exB, hdB⟩, nlB, kB1, kB2, PySem.W.mg_none_of X G zValueError⟩
  have TE : RE K CP fge _ := ⟨Fge, bge, age, ige, hsn, hmP, haP, hnB, htB, kPP, nPP, q_str, r_str⟩
  have N : RN K CP := ⟨⟨kit_ty (by decide +kernel), q_tuple, r_tuple⟩, ⟨kit_ty (by decide +kernel), q_list, r_list⟩, ⟨kit_ty (by decide +kernel), q_dict, r_dict⟩, ⟨kit_ty (by decide +kernel), q_NoneType, r_NoneType⟩, ⟨kit_ty (by decide +kernel), q_bool, r_bool⟩, ⟨kit_ty (by decide +kernel), q_int, r_int⟩⟩
  have D : Draws mg K flp flt flo _ _ _ := ⟨PySem.W.mg_of X G alp, PySem.W.mg_of X G alt, PySem.W.mg_of X G alo, Flp, Flt, Flo, blp, blt, blo, ⟨PySem.W.mg_none_of X G zint, PySem.W.mg_none_of X G zabs, PySem.W.mg_none_of X G zlen⟩⟩
  refine ⟨PySem.W.fnOf "law" "law" (defArgs sLaw) (defBody sLaw) (defScope sLaw) .none kVla dcla pmla anla cdla ctla, fun s v => .of_eq rfl, fun base _ _ => ?_⟩
  have Gpa : DOk P w K mg base 1 "_parted" spParted := ⟨_, _, _, PySem.W.mg_of X G apa, kpa, ok_parted Fpa T, bpa⟩
  have Giw : DOk P w K mg base 1 "is_word" spWord := ⟨_, _, _, PySem.W.mg_of X G aiw, kiw, ok_word Fiw T, biw⟩
  have Gwa : MOk P w K mg base 1 C "words_at" (spWordsAt C) := ⟨_, _, _, ⟨awa, iwa, kwa⟩, ok_words_at Fwa T, bwa⟩
  have Gbe : MOk P w K mg base 2 C "begins" (spBegins C) := ⟨_, _, _, ⟨abe, ibe, kbe⟩, ok_begins Fbe T Gwa, bbe⟩
  have Gne : MOk P w K mg base 3 C "need" (spNeed C cB) := ⟨_, _, _, ⟨ane, ine, kne⟩, ok_need Fne T, bne⟩
  have Grr : MOk P w K mg base 4 C "ref_of" (spRefOf C cB) := ⟨_, _, _, ⟨arr, irr, krr⟩, ok_refOf Frr T Gne, brr⟩
  have Gcw : MOk P w K mg base 4 C "cell_worth" (spCellWorth C cB) := ⟨_, _, _, ⟨acw, icw, kcw⟩, ok_cellWorth Fcw T Gne, bcw⟩
  have Gws : MOk P w K mg base 5 C "write_statement" (spWrite C cB) := ⟨_, _, _, ⟨aws, iws, kws⟩, ok_write Fws T TC Gne Grr Giw, bws⟩
  have Gls : MOk P w K mg base 6 C "line_statement" (spLine C cB lineOk) := ⟨_, _, _, ⟨als, ils, kls⟩, ok_line Fls T Gne Gws, bls⟩
  have Ghs : MOk P w K mg base 6 C "head_statement" (spLine C cB headOk) := ⟨_, _, _, ⟨ahs, ihs, khs⟩, ok_head Fhs T Gne Gws, bhs⟩
  have Grbn : MOk P w K mg base 5 C "read_block" (spBelow C cB 0) := ⟨_, _, _, ⟨arb, irb, krb⟩, ok_none Frb, brb⟩
  have Gri0 : MOk P w K mg base 6 C "read_if" (spStm C cB 1 0 ifR) := ⟨_, _, _, ⟨ari, iri, kri⟩, ok_if (by decide) Fri T TC Gne Gwa Giw Gcw Grr Grbn, bri⟩
  have Grs0 : MOk P w K mg base 7 C "read_statement" (spStm C cB 1 0 stmM) := ⟨_, _, _, ⟨ars, irs, krs⟩, ok_stm (by decide) Frs T Gne Gls Ghs Gcw Gri0, brs⟩
  have Grb0 : MOk P w K mg base 8 C "read_block" (spBlock C cB 0) := ⟨_, _, _, ⟨arb, irb, krb⟩, ok_block (by decide) Frb T TC Gne Gwa Grs0, brb⟩
  have Gri1 : MOk P w K mg base 9 C "read_if" (spStm C cB 1 1 ifR) := ⟨_, _, _, ⟨ari, iri, kri⟩, ok_if (by decide) Fri T TC Gne Gwa Giw Gcw Grr Grb0, bri⟩
  have Grs1 : MOk P w K mg base 10 C "read_statement" (spStm C cB 1 1 stmM) := ⟨_, _, _, ⟨ars, irs, krs⟩, ok_stm (by decide) Frs T Gne Gls Ghs Gcw Gri1, brs⟩
  have Grb1 : MOk P w K mg base 11 C "read_block" (spBlock C cB 1) := ⟨_, _, _, ⟨arb, irb, krb⟩, ok_block (by decide) Frb T TC Gne Gwa Grs1, brb⟩
  have Gri2 : MOk P w K mg base 12 C "read_if" (spStm C cB 1 2 ifR) := ⟨_, _, _, ⟨ari, iri, kri⟩, ok_if (by decide) Fri T TC Gne Gwa Giw Gcw Grr Grb1, bri⟩
  have Grs2 : MOk P w K mg base 13 C "read_statement" (spStm C cB 1 2 stmM) := ⟨_, _, _, ⟨ars, irs, krs⟩, ok_stm (by decide) Frs T Gne Gls Ghs Gcw Gri2, brs⟩
  have Grb2 : MOk P w K mg base 14 C "read_block" (spBlock C cB 2) := ⟨_, _, _, ⟨arb, irb, krb⟩, ok_block (by decide) Frb T TC Gne Gwa Grs2, brb⟩
  have Grf : MOk P w K mg base 4 C "read_fields" (spFields C cB) := ⟨_, _, _, ⟨arf, irf, krf⟩, ok_fields Frf T TC Gne Gwa Giw, brf⟩
  have Grk : MOk P w K mg base 5 C "read_kind" (spKind C cB) := ⟨_, _, _, ⟨ark, irk, krk⟩, ok_kind Frk T TC Gne Grf Giw, brk⟩
  have Grc : MOk P w K mg base 4 C "read_cell" (spCell C cB) := ⟨_, _, _, ⟨arc, irc, krc⟩, ok_cell Frc T TC TW Gne Giw, brc⟩
  have Gpl : MOk P w K mg base 1 C "places" (spPlaces C) := ⟨_, _, _, ⟨apl, ipl, kpl⟩, ok_places Fpl T, bpl⟩
  have Grp : MOk P w K mg base 15 C "read_part" (spPart C cB) := ⟨_, _, _, ⟨arp, irp, krp⟩, ok_part (by decide) Frp T TQ Gbe Gwa Grc Gpl Grb2, brp⟩
  have Grd : MOk P w K mg base 16 C "read" (spRead C cB) := ⟨_, _, _, ⟨ard, ird, krd⟩, ok_read (by decide) Frd T TC Gbe Gwa Gne Grk Grp, brd⟩
  have GR : FnOk P w K mg base (L2.CX P w) 3 fru _ ["self", "text"] (spRdInit C) := ok_rdInit TS T (ok_lnInit Fli T Gpa) bli
  have GP : FnOk P w K mg base (L2.CX P w) 17 fgi _ ["self", "text"] (spPgInit K CP cB) := ok_pgInit (by decide) Fgi T TG GR Grd
  have GE : FnOk P w K mg base (L2.CX P w) 1 fge _ ["self", "other"] (spPgEq K CP) := ok_pgEq Fge T TG TL.mgP
  have Glp : DOk0 P w K mg base 1 "_law_pot" (spPot K) := ⟨_, _, _, PySem.W.mg_of X G alp, klp, ok_pot D, blp⟩
  have Glo : DOk0 P w K mg base 2 "_law_of" spOf := ⟨_, _, _, PySem.W.mg_of X G alo, klo, ok_of D, blo⟩
  have Gln : DOk0 P w K mg base 3 "_law_nested" (spNested K CP) := ⟨_, _, _, PySem.W.mg_of X G aln, kln, ok_nested Fln D N T.range, bln⟩
  have Gll : DOk0 P w K mg base 19 "_law_line_of" (spLineOf K) := ⟨_, _, _, PySem.W.mg_of X G all, kll, ok_lineOf Fll T TL GP, bll⟩
  have Glr : DOk0 P w K mg base 20 "_law_right" spRight := ⟨_, _, _, PySem.W.mg_of X G alr, klr, ok_right (by decide) Flr T TL TE N ⟨pgCP, hdCP, poCP, saCP⟩ (PySem.W.mg_none_of X G zrepr) GE GP Glo Gln Gll, blr⟩
  exact ok_law (by decide) Fla T (PySem.W.mg_none_of X G zmax) (PySem.W.mg_none_of X G zmin) Glp Glr
end K7
/-! part F2 -/
set_option Elab.async false
set_option linter.all false
set_option maxRecDepth 100000
namespace K7
open PySem L2
theorem walk {l : PySem.W.OpenLaw} {q : Program} {loose : List Str} {XP : (Str → Option Value) → Heap → Prop} {YP : World → Heap → Prop} {d : DefRec} {K : Params → PySem.W.Frag} (hn : l.most = some 63) (hdf : d.params.defaults = [])
    (hY : ∀ (w : World) (h : Heap), YP w h → (K w.params).In h)
    (F : ∀ (w : World) (mg : Str → Option Value) (fa : Addr) (h : Heap), (K w.params).In h → h.Ns mainGlobals mg → mg d.name = some (.ref fa) →
      ∃ fd : FuncData, (∀ (s : Shared) (u : Value), BindsTo s fd ⟨[u], []⟩ [("_law_script", u)]) ∧ ∀ base : Heap, (K w.params).In base → base.Ns mainGlobals mg → FnOk l.prog w (K w.params) mg base CX0 21 fa fd ["_law_script"] (spLaw (K w.params))) :
    PySem.W.WalkO q loose XP YP l.row.toRowW d [] (fun f vs => PySem.call f vs) :=
  L2.walk_of (n := 63) (k := 21) (x := "_law_script") (CX := fun _ => CX0) (sp := fun w => spLaw (K w.params)) hn (by decide) hdf ⟨rfl, by decide, by decide⟩ hY F (fun _ _ a ns hl _ hS => ⟨a, ns, rfl, hS, hl, fun _ => rfl⟩) fun _ _ _ _ _ z => z
end K7
open PySem PySem.W PyProof.Rows
set_option maxRecDepth 100000 in
set_option maxHeartbeats 0 in
theorem PySem.Challenge.cw_handkept_k07_texts_of_any_value_holds : PySem.Challenge.rw_handkept_k07_texts_of_any_value.Holds := by
  w_on; o_law; k_head; (case hw => w_witness2)
  k_fill
  refine K7.walk (l := PySem.Challenge.rw_handkept_k07_texts_of_any_value) rfl rfl (fun w h Y => PySem.W.kIn_of Y) ?F
  case F =>
    intro w mg fa h KX G hmg
    refine' K7.all_mk KX G hmg ?nC ?nCP ?ncP ?ncB ?ncK ?abi ?ibi ?lbi ?cbi ?kbi ?apa ?lpa ?cpa ?kpa ?aiw ?liw ?ciw ?kiw ?api ?ipi ?lpi ?cpi ?kpi ?awa ?iwa ?lwa ?cwa ?kwa ?abe ?ibe ?lbe ?cbe ?kbe ?ane ?ine ?lne ?cne ?kne ?ard ?ird ?lrd ?crd ?krd ?ark ?irk ?lrk ?crk ?krk ?arf ?irf ?lrf ?crf ?krf ?arp ?irp ?lrp ?crp ?krp ?apl ?ipl ?lpl ?cpl ?kpl ?arc ?irc ?lrc ?crc ?krc ?arb ?irb ?lrb ?crb ?krb ?ars ?irs ?lrs ?crs ?krs ?ari ?iri ?lri ?cri ?kri ?als ?ils ?lls ?cls ?kls ?ahs ?ihs ?lhs ?chs ?khs ?aws ?iws ?lws ?cws ?kws ?acw ?icw ?lcw ?ccw ?kcw ?arr ?irr ?lrr ?crr ?krr ?agi ?igi ?lgi ?cgi ?kgi ?age ?ige ?lge ?cge ?kge ?alp ?llp ?clp ?klp ?alt ?llt ?clt ?klt ?alo ?llo ?clo ?klo ?all ?lll ?cll ?kll ?aln ?lln ?cln ?kln ?alr ?llr ?clr ?klr ?ala ?lla ?cla ?kla ?aru ?iru ?lru ?cruF ?sln ?tln ?fln ?lli ?cli ?kli ?xce ?lce ?lco ?vco ?fco ?sub ?zsu ?thi ?zlen ?ztuple ?zint ?zstr ?zrange ?zall ?zisinstance ?zabs ?zValueError ?zrepr ?zmax ?zmin ?vBLANKS ?vMOST_LETTERS ?vMOST_KINDS ?vMOST_KINDS_IN_ONE_ANOTHER ?vMOST_FIELDS ?vMOST_PASSES ?vMOST_CELLS ?vMOST_STATEMENTS ?vMOST_IFS_IN_ONE_ANOTHER ?vMOST_TOKENS ?nW ?lW ?pgC ?hdC ?poC ?saC ?mkC ?kcC ?pgcP ?hdcP ?pocP ?sacP ?mkcP ?kccP ?pgCP ?hdCP ?poCP ?saCP ?mkCP ?kcCP ?nC_lines ?nC_at ?nC_kinds ?nC_chains ?nC_fields ?nC_labels ?nC_parts ?nC_cells ?nC_worths ?nC_near ?nP_worths ?nP_blocks ?nG_text ?nG_kinds ?nG_labels ?nG_passes ?nG_parts ?xB ?rB ?saB ?exB ?tyB ?kB ?tbi ?nlB ?gaB ?ggB ?hdB ?haB ?hnB ?htB ?hmB ?exK ?hdK ?tyK ?sBK ?kB1 ?kB2 ?hsn ?hmP ?haP ?kPP ?nPP ?q_str ?r_str ?q_tuple ?r_tuple ?q_list ?r_list ?q_dict ?r_dict ?q_NoneType ?r_NoneType ?q_bool ?r_bool ?q_int ?r_int
    (case nC => first | k_is | rfl)
    (case nCP => first | k_is | rfl)
    (case ncP => first | k_is | rfl)
    (case ncB => first | k_is | rfl)
    (case ncK => first | k_is | rfl)
    (case abi => first | k_is | rfl)
    (case ibi => first | k_is | rfl)
    (case lbi => first | k_is | rfl)
    (case cbi => first | k_is | rfl)
    (case kbi => first | k_is | rfl)
    (case apa => first | k_is | rfl)
    (case lpa => first | k_is | rfl)
    (case cpa => first | k_is | rfl)
    (case kpa => first | k_is | rfl)
    (case aiw => first | k_is | rfl)
    (case liw => first | k_is | rfl)
    (case ciw => first | k_is | rfl)
    (case kiw => first | k_is | rfl)
    (case api => first | k_is | rfl)
    (case ipi => first | k_is | rfl)
    (case lpi => first | k_is | rfl)
    (case cpi => first | k_is | rfl)
    (case kpi => first | k_is | rfl)
    (case awa => first | k_is | rfl)
    (case iwa => first | k_is | rfl)
    (case lwa => first | k_is | rfl)
    (case cwa => first | k_is | rfl)
    (case kwa => first | k_is | rfl)
    (case abe => first | k_is | rfl)
    (case ibe => first | k_is | rfl)
    (case lbe => first | k_is | rfl)
    (case cbe => first | k_is | rfl)
    (case kbe => first | k_is | rfl)
    (case ane => first | k_is | rfl)
    (case ine => first | k_is | rfl)
    (case lne => first | k_is | rfl)
    (case cne => first | k_is | rfl)
    (case kne => first | k_is | rfl)
    (case ard => first | k_is | rfl)
    (case ird => first | k_is | rfl)
    (case lrd => first | k_is | rfl)
    (case crd => first | k_is | rfl)
    (case krd => first | k_is | rfl)
    (case ark => first | k_is | rfl)
    (case irk => first | k_is | rfl)
    (case lrk => first | k_is | rfl)
    (case crk => first | k_is | rfl)
    (case krk => first | k_is | rfl)
    (case arf => first | k_is | rfl)
    (case irf => first | k_is | rfl)
    (case lrf => first | k_is | rfl)
    (case crf => first | k_is | rfl)
    (case krf => first | k_is | rfl)
    (case arp => first | k_is | rfl)
    (case irp => first | k_is | rfl)
    (case lrp => first | k_is | rfl)
    (case crp => first | k_is | rfl)
    (case krp => first | k_is | rfl)
    (case apl => first | k_is | rfl)
    (case ipl => first | k_is | rfl)
    (case lpl => first | k_is | rfl)
    (case cpl => first | k_is | rfl)
    (case kpl => first | k_is | rfl)
    (case arc => first | k_is | rfl)
    (case irc => first | k_is | rfl)
    (case lrc => first | k_is | rfl)
    (case crc => first | k_is | rfl)
    (case krc => first | k_is | rfl)
    (case arb => first | k_is | rfl)
    (case irb => first | k_is | rfl)
    (case lrb => first | k_is | rfl)
    (case crb => first | k_is | rfl)
    (case krb => first | k_is | rfl)
    (case ars => first | k_is | rfl)
    (case irs => first | k_is | rfl)
    (case lrs => first | k_is | rfl)
    (case crs => first | k_is | rfl)
    (case krs => first | k_is | rfl)
    (case ari => first | k_is | rfl)
    (case iri => first | k_is | rfl)
    (case lri => first | k_is | rfl)
    (case cri => first | k_is | rfl)
    (case kri => first | k_is | rfl)
    (case als => first | k_is | rfl)
    (case ils => first | k_is | rfl)
    (case lls => first | k_is | rfl)
    (case cls => first | k_is | rfl)
    (case kls => first | k_is | rfl)
    (case ahs => first | k_is | rfl)
    (case ihs => first | k_is | rfl)
    (case lhs => first | k_is | rfl)
    (case chs => first | k_is | rfl)
    (case khs => first | k_is | rfl)
    (case aws => first | k_is | rfl)
    (case iws => first | k_is | rfl)
    (case lws => first | k_is | rfl)
    (case cws => first | k_is | rfl)
    (case kws => first | k_is | rfl)
    (case acw => first | k_is | rfl)
    (case icw => first | k_is | rfl)
    (case lcw => first | k_is | rfl)
    (case ccw => first | k_is | rfl)
    (case kcw => first | k_is | rfl)
    (case arr => first | k_is | rfl)
    (case irr => first | k_is | rfl)
    (case lrr => first | k_is | rfl)
    (case crr => first | k_is | rfl)
    (case krr => first | k_is | rfl)
    (case agi => first | k_is | rfl)
    (case igi => first | k_is | rfl)
    (case lgi => first | k_is | rfl)
    (case cgi => first | k_is | rfl)
    (case kgi => first | k_is | rfl)
    (case age => first | k_is | rfl)
    (case ige => first | k_is | rfl)
    (case lge => first | k_is | rfl)
    (case cge => first | k_is | rfl)
    (case kge => first | k_is | rfl)
    (case alp => first | k_is | rfl)
    (case llp => first | k_is | rfl)
    (case clp => first | k_is | rfl)
    (case klp => first | k_is | rfl)
    (case alt => first | k_is | rfl)
    (case llt => first | k_is | rfl)
    (case clt => first | k_is | rfl)
    (case klt => first | k_is | rfl)
    (case alo => first | k_is | rfl)
    (case llo => first | k_is | rfl)
    (case clo => first | k_is | rfl)
    (case klo => first | k_is | rfl)
    (case all => first | k_is | rfl)
    (case lll => first | k_is | rfl)
    (case cll => first | k_is | rfl)
    (case kll => first | k_is | rfl)
    (case aln => first | k_is | rfl)
    (case lln => first | k_is | rfl)
    (case cln => first | k_is | rfl)
    (case kln => first | k_is | rfl)
    (case alr => first | k_is | rfl)
    (case llr => first | k_is | rfl)
    (case clr => first | k_is | rfl)
    (case klr => first | k_is | rfl)
    (case ala => first | k_is | rfl)
    (case lla => first | k_is | rfl)
    (case cla => first | k_is | rfl)
    (case kla => first | k_is | rfl)
    (case aru => first | k_is | rfl)
    (case iru => first | k_is | rfl)
    (case lru => first | k_is | rfl)
    (case cruF => first | k_is | rfl)
    (case sln => first | k_is | rfl)
    (case tln => first | k_is | rfl)
    (case fln => first | k_is | rfl)
    (case lli => first | k_is | rfl)
    (case cli => first | k_is | rfl)
    (case kli => first | k_is | rfl)
    (case xce => rfl)
    (case lce => first | k_is | rfl)
    (case lco => first | k_is | rfl)
    (case vco => rfl)
    (case fco => decide +kernel)
    (case sub => first | k_is | rfl)
    (case zsu => first | k_is | rfl)
    (case thi => first | k_is | rfl)
    (case zlen => first | k_is | rfl)
    (case ztuple => first | k_is | rfl)
    (case zint => first | k_is | rfl)
    (case zstr => first | k_is | rfl)
    (case zrange => first | k_is | rfl)
    (case zall => first | k_is | rfl)
    (case zisinstance => first | k_is | rfl)
    (case zabs => first | k_is | rfl)
    (case zValueError => first | k_is | rfl)
    (case zrepr => first | k_is | rfl)
    (case zmax => first | k_is | rfl)
    (case zmin => first | k_is | rfl)
    (case vBLANKS => first | k_is | rfl)
    (case vMOST_LETTERS => first | k_is | rfl)
    (case vMOST_KINDS => first | k_is | rfl)
    (case vMOST_KINDS_IN_ONE_ANOTHER => first | k_is | rfl)
    (case vMOST_FIELDS => first | k_is | rfl)
    (case vMOST_PASSES => first | k_is | rfl)
    (case vMOST_CELLS => first | k_is | rfl)
    (case vMOST_STATEMENTS => first | k_is | rfl)
    (case vMOST_IFS_IN_ONE_ANOTHER => first | k_is | rfl)
    (case vMOST_TOKENS => first | k_is | rfl)
    (case nW => first | k_is | rfl)
    (case lW => first | k_is | rfl)
    (case pgC => first | k_is | rfl)
    (case hdC => first | k_is | rfl)
    (case poC => first | k_is | rfl)
    (case saC => first | k_is | rfl)
    (case mkC => first | k_is | rfl)
    (case kcC => first | k_is | rfl)
    (case pgcP => first | k_is | rfl)
    (case hdcP => first | k_is | rfl)
    (case pocP => first | k_is | rfl)
    (case sacP => first | k_is | rfl)
    (case mkcP => first | k_is | rfl)
    (case kccP => first | k_is | rfl)
    (case pgCP => first | k_is | rfl)
    (case hdCP => first | k_is | rfl)
    (case poCP => first | k_is | rfl)
    (case saCP => first | k_is | rfl)
    (case mkCP => first | k_is | rfl)
    (case kcCP => first | k_is | rfl)
    (case nC_lines => first | k_is | rfl)
    (case nC_at => first | k_is | rfl)
    (case nC_kinds => first | k_is | rfl)
    (case nC_chains => first | k_is | rfl)
    (case nC_fields => first | k_is | rfl)
    (case nC_labels => first | k_is | rfl)
    (case nC_parts => first | k_is | rfl)
    (case nC_cells => first | k_is | rfl)
    (case nC_worths => first | k_is | rfl)
    (case nC_near => first | k_is | rfl)
    (case nP_worths => first | k_is | rfl)
    (case nP_blocks => first | k_is | rfl)
    (case nG_text => first | k_is | rfl)
    (case nG_kinds => first | k_is | rfl)
    (case nG_labels => first | k_is | rfl)
    (case nG_passes => first | k_is | rfl)
    (case nG_parts => first | k_is | rfl)
    (case xB => first | k_is | rfl)
    (case rB => first | rfl | decide +kernel)
    (case saB => first | k_is | rfl)
    (case exB => first | k_is | rfl)
    (case tyB => first | k_is | rfl)
    (case kB => first | k_is | rfl)
    (case tbi => first | k_is | rfl)
    (case nlB => first | k_is | rfl)
    (case gaB => first | k_is | rfl)
    (case ggB => first | k_is | rfl)
    (case hdB => first | k_is | rfl)
    (case haB => first | k_is | rfl)
    (case hnB => first | k_is | rfl)
    (case htB => first | k_is | rfl)
    (case hmB => first | k_is | rfl)
    (case exK => first | k_is | rfl)
    (case hdK => first | k_is | rfl)
    (case tyK => first | k_is | rfl)
    (case sBK => first | k_is | rfl)
    (case kB1 => first | k_is | rfl)
    (case kB2 => first | k_is | rfl)
    (case hsn => first | k_is | rfl)
    (case hmP => first | k_is | rfl)
    (case haP => first | k_is | rfl)
    (case kPP => first | k_is | rfl)
    (case nPP => first | rfl | k_is)
    (case q_str => first | k_is | rfl)
    (case r_str => first | k_is | rfl)
    (case q_tuple => first | k_is | rfl)
    (case r_tuple => first | k_is | rfl)
    (case q_list => first | k_is | rfl)
    (case r_list => first | k_is | rfl)
    (case q_dict => first | k_is | rfl)
    (case r_dict => first | k_is | rfl)
    (case q_NoneType => first | k_is | rfl)
    (case r_NoneType => first | k_is | rfl)
    (case q_bool => first | k_is | rfl)
    (case r_bool => first | k_is | rfl)
    (case q_int => first | k_is | rfl)
    (case r_int => first | k_is | rfl)
