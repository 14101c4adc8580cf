import PyProof.Rows.All
import Wide.All
import OpenK.AllK
import Wide.FinOn
import HandS.ForMost
import HandS.IsInst
import HandS.Wide
import HandS.Codes
import PySem.Challenge.RW_ringhall_k06_prices_let_by
set_option Elab.async false
set_option maxRecDepth 100000
namespace Rh
open PySem L2
def topS (i : Nat) : Stmt := PySem.Challenge.pw_ringhall_k06_prices_let_by.main.body.getD i (.Pass ⟨0, 0, 0, 0⟩)

/-! ### the purse -/
def Pu (H : Hp) (p : Addr) (n : Int) : Prop := ∃ own seed cnt : Int, H p = some (.lst [.int own, .int seed, .int cnt]) ∧ 0 ≤ own ∧ 0 ≤ seed ∧ seed < 2 ^ 63 ∧ 0 ≤ cnt ∧ cnt ≤ n
def Keep (p : Addr) (H H' : Hp) : Prop := ∀ b o, b ≠ p → H b = some o → H' b = some o
theorem Keep.refl (p : Addr) (H : Hp) : Keep p H H := fun _ _ _ h => h
theorem Keep.trans {p : Addr} {H H1 H2 : Hp} (a : Keep p H H1) (b : Keep p H1 H2) : Keep p H H2 := fun c o n h => b c o n (a c o n h)
theorem Keep.same {p : Addr} {H H' : Hp} (s : Same H H') : Keep p H H' := fun c o _ h => s c o h
theorem Same.keep {p : Addr} {H0 H H' : Hp} (s : Same H0 H) (k : Keep p H H') (n : H0 p = none) : Same H0 H' := fun b o h => k b o (ne_of_none h n) (s b o h)
theorem Same.new {H : Hp} {p : Addr} {o : HO} (h : H p = none) : Same H (upd H p o) := fun a u e => by
  rw [upd_ne (ne_of_none e h)]
  exact e
theorem Pu.same {H H' : Hp} {p : Addr} {n : Int} (u : Pu H p n) (s : Same H H') : Pu H' p n := by
  obtain ⟨a, b, c, h, r⟩ := u
  exact ⟨a, b, c, s _ _ h, r⟩
theorem Pu.mono {H : Hp} {p : Addr} {n m : Int} (u : Pu H p n) (h : n ≤ m) : Pu H p m := by
  obtain ⟨a, b, c, h1, h2, h3, h4, h5, h6⟩ := u
  exact ⟨a, b, c, h1, h2, h3, h4, h5, by omega⟩

def spPurse (K : PySem.W.Frag) : Sp := fun vs H Q _ => ∃ (a : Addr) (ns : List Int) (k : Int), vs = [.ref a, .int k] ∧ SqL K H a (ns.map V.int) ∧ ns.length ≤ 63 ∧ 0 ≤ k ∧ k < 64 ∧ ∀ p H', H p = none → Same H H' → Pu H' p 0 → Q (.ref p) H'
def spCoin : Sp := fun vs H Q _ => ∃ (p : Addr) (many n : Int), vs = [.ref p, .int many] ∧ Pu H p n ∧ n < 2 ^ 30 ∧ 1 ≤ many ∧ many < 2 ^ 300 ∧
  ∀ r H', 0 ≤ r → r < many → Pu H' p (n + 1) → Keep p H H' → Q (.int r) H'

/-- a def that stands under its name and keeps its promise -/
def Cal (P : Program) (w : World) (K : PySem.W.Frag) (mg : Str → Option Value) (base : Heap) (k : Nat) (x : Str) (ps : List Str) (sp : Sp) : Prop :=
  ∃ (f : Addr) (fd : FuncData), FnOk P w K mg base CX0 k f fd ps sp ∧ mg x = some (.ref f) ∧ PySem.W.keepIn K (.ref f) = true ∧ Binds K fd ps []

structure Txt (mg : Str → Option Value) : Prop where
  b_len : mg "len" = none
  b_max : mg "max" = none
  b_min : mg "min" = none
  b_range : mg "range" = none
  b_bool : mg "bool" = none
  b_isinstance : mg "isinstance" = none
  mg_BUY : ∃ t, mg "BUY" = some (.str "buy" t)

abbrev primesL : List V := [.int 2147483489, .int 2147483477, .int 2147483423, .int 2147483399, .int 2147483353, .int 2147483323, .int 2147483269, .int 2147483249]
theorem prime_at {i : Int} (h0 : 0 ≤ i) (h8 : i < 8) : ∃ v : Int, atI primesL i = some (.int v) ∧ 2147483249 ≤ v ∧ v ≤ 2147483489 := by
  have h : i = 0 ∨ i = 1 ∨ i = 2 ∨ i = 3 ∨ i = 4 ∨ i = 5 ∨ i = 6 ∨ i = 7 := by omega
  rcases h with h | h | h | h | h | h | h | h <;> subst h <;> exact ⟨_, rfl, by decide, by decide⟩

section
variable {P : Program} {w : World} {K : PySem.W.Frag} {mg : Str → Option Value} {base : Heap}

abbrev s_law_purse : Stmt := topS 4
theorem sc_law_purse : FnScope ["script", "k", "cell", "own"] ["script", "k"] (defScope s_law_purse) := ⟨rfl, rfl, rfl, by decide +kernel, rfl, by decide +kernel, by decide +kernel⟩
theorem ok_purse {f : Addr} {fd : FuncData} (F : Fun K "_law_purse" "_law_purse" s_law_purse f fd) (T : Txt mg) : FnOk P w K mg base CX0 1 f fd ["script", "k"] (spPurse K) := by
  refine F.ok sc_law_purse (fun vs H Q E h => ?_) (fun cdv A outer s H vs Q E hr h => ?_)
  · obtain ⟨a, ns, k, rfl, _⟩ := h
    rfl
  · obtain ⟨a, ns, k, rfl, hS, hlen, hk0, hk1, q⟩ := h
    refine ⟨_, (pss_cons (ps_set (i := 2) sc_law_purse.nd rfl (Or.inl rfl) (pe_op op_add (pe_op op_mul pe_int (pv 1)) pe_int))
      (pss_cons (ps_if (pt_cmpR op_lt (pv 1) (pe_callB call_len_seq (by rfl) T.b_len PySem.boot_len (pa_cons (pv 0) pa_nil)) (nomark _)) (pss_one (ps_set (i := 2) sc_law_purse.nd rfl (Or.inl rfl) (pe_ix ix_list (pv 0) (pv 1) (fun _ _ => rfl)))) pss_nil)
      (pss_cons (ps_set (i := 3) sc_law_purse.nd rfl (Or.inl rfl) pe_int)
      (pss_cons (ps_if (pt_cmpR op_ge (pv 2) (pe_op op_pow pe_int pe_int) (nomark _)) (pss_one (ps_set (i := 3) sc_law_purse.nd rfl (Or.inl rfl) (pe_op op_sub (pv 2) (pe_op op_pow pe_int pe_int)))) pss_nil)
      (pss_one (ps_ret (pe_lst (pa_cons (pv 3) (pa_cons (pe_op op_add (pe_op op_mod (pv 2) pe_int) (pe_op op_mul pe_int (pv 1))) (pa_cons pe_int pa_nil)))))))))), ?_⟩
    have fin : ∀ cell own : Int, 0 ≤ own → ∀ p, H p = none → Q (.ref p) (upd H p (.lst [.int own, .int (cell % 4611686018427387847 + 53 * k), .int 0])) := fun cell own ho p np =>
      q p _ np (Same.new np) ⟨own, _, 0, upd_same, ho, by omega, by omega, by omega, by omega⟩
    have tail : ∀ cell : Int, ∀ σ : St, σ = [some (.ref a), some (.int k), some (.int cell), none] → True := fun _ _ _ => trivial
    refine ⟨_, rfl, _, _, rfl, rfl, .inl ⟨by decide, by decide⟩, _, _, rfl, rfl, ?_⟩
    refine ⟨_, rfl, _, rfl, _, _, rfl, .inl hS, _, _, rfl, rfl, _, rfl, ite2 (fun c => ?_) (fun c => ?_)⟩
    · have c1 : k < (ns.length : Int) := by
        have c2 := of_decide_eq_true c
        rw [List.length_map] at c2
        exact c2
      have c3 : (ns.map V.int)[k.toNat]? = some (V.int (ns.getD k.toNat 0)) := by
        have c4 : k.toNat < ns.length := by omega
        rw [List.getElem?_map, List.getElem?_eq_getElem c4, List.getD_eq_getElem?_getD, List.getElem?_eq_getElem c4]
        rfl
      have c5 : atI (ns.map V.int) k = some (V.int (ns.getD k.toNat 0)) := by
        have c6 := atI_nat c3
        rw [Int.toNat_of_nonneg hk0] at c6
        exact c6
      refine ⟨_, rfl, _, rfl, a, _, _, _, rfl, rfl, hS, c5, ?_⟩
      refine ⟨_, rfl, _, _, rfl, rfl, ⟨by decide, by decide, by decide⟩, _, _, rfl, rfl, _, rfl, ite2 (fun d => ?_) (fun d => ?_)⟩
      · refine ⟨_, rfl, _, _, rfl, rfl, ⟨by decide, by decide, by decide⟩, _, _, rfl, rfl, ?_⟩
        refine ⟨_, rfl, _, rfl, _, _, rfl, rfl, (by show (0 : Int) < 4611686018427387847; decide), _, rfl, _, _, rfl, rfl, .inl ⟨by decide, by decide⟩, _, _, rfl, rfl, (by show 3 ≤ sizeLine; decide), fun p np => fin _ _ ?_ p np⟩
        have d1 := of_decide_eq_true d
        exact Int.sub_nonneg_of_le d1
      · refine ⟨_, rfl, _, rfl, _, _, rfl, rfl, (by show (0 : Int) < 4611686018427387847; decide), _, rfl, _, _, rfl, rfl, .inl ⟨by decide, by decide⟩, _, _, rfl, rfl, (by show 3 ≤ sizeLine; decide), fun p np => fin _ _ (by decide) p np⟩
    · refine ⟨_, rfl, _, _, rfl, rfl, ⟨by decide, by decide, by decide⟩, _, _, rfl, rfl, _, rfl, ite2 (fun d => ?_) (fun d => ?_)⟩
      · refine ⟨_, rfl, _, _, rfl, rfl, ⟨by decide, by decide, by decide⟩, _, _, rfl, rfl, ?_⟩
        refine ⟨_, rfl, _, rfl, _, _, rfl, rfl, (by show (0 : Int) < 4611686018427387847; decide), _, rfl, _, _, rfl, rfl, .inl ⟨by decide, by decide⟩, _, _, rfl, rfl, (by show 3 ≤ sizeLine; decide), fun p np => fin _ _ ?_ p np⟩
        have d1 := of_decide_eq_true d
        exact Int.sub_nonneg_of_le d1
      · refine ⟨_, rfl, _, rfl, _, _, rfl, rfl, (by show (0 : Int) < 4611686018427387847; decide), _, rfl, _, _, rfl, rfl, .inl ⟨by decide, by decide⟩, _, _, rfl, rfl, (by show 3 ≤ sizeLine; decide), fun p np => fin _ _ (by decide) p np⟩

abbrev s_law_coin : Stmt := topS 5
theorem sc_law_coin : FnScope ["purse", "many", "digit", "primes", "prime", "one", "two"] ["purse", "many"] (defScope s_law_coin) := ⟨rfl, rfl, rfl, by decide +kernel, rfl, by decide +kernel, by decide +kernel⟩
theorem ok_coin {f : Addr} {fd : FuncData} (F : Fun K "_law_coin" "_law_coin" s_law_coin f fd) : FnOk P w K mg base CX0 1 f fd ["purse", "many"] spCoin := by
  refine F.ok sc_law_coin (fun vs H Q E h => ?_) (fun cdv A outer s H vs Q E hr h => ?_)
  · obtain ⟨p, many, n, rfl, _⟩ := h
    rfl
  · obtain ⟨p, many, n, rfl, ⟨own, seed, cnt, hp, h1, h2, h3, h4, h5⟩, hn, hm1, hm2, k⟩ := h
    have m0 : (0 : Int) < many := by omega
    have mw : CDivW own many := wide_div m0 (b := 300) (by omega) (by decide) (by decide)
    refine ⟨_, (pss_cons (ps_if (pt_cmpR op_ge (pe_ix ix_list (pv 0) pe_int (fun _ _ => rfl)) (pv 1) (nomark _)) (pss_cons (ps_set (i := 2) sc_law_coin.nd rfl (Or.inl rfl) (pe_op op_mod (pe_ix ix_list (pv 0) pe_int (fun _ _ => rfl)) (pv 1)))
        (pss_cons (ps_asg (pe_op op_fdivW (pe_ix ix_list (pv 0) pe_int (fun _ _ => rfl)) (pv 1)) (pg_sub (pv 0) pe_int set_list))
        (pss_one (ps_ret (pv 2))))) pss_nil)
      (pss_cons (ps_asg (pe_op op_add (pe_ix ix_list (pv 0) pe_int (fun _ _ => rfl)) pe_int) (pg_sub (pv 0) pe_int set_list))
      (pss_cons (ps_set (i := 3) sc_law_coin.nd rfl (Or.inl rfl) (pe_lst (pa_cons pe_int (pa_cons pe_int (pa_cons pe_int (pa_cons pe_int (pa_cons pe_int (pa_cons pe_int (pa_cons pe_int (pa_cons pe_int pa_nil))))))))))
      (pss_cons (ps_set (i := 4) sc_law_coin.nd rfl (Or.inl rfl) (pe_ix ix_list (pv 3) (pe_op op_mod (pe_ix ix_list (pv 0) pe_int (fun _ _ => rfl)) pe_int) (fun _ _ => rfl)))
      (pss_cons (ps_set (i := 5) sc_law_coin.nd rfl (Or.inl rfl) (pe_op op_add (pe_op op_mul (pe_op op_mod (pe_ix ix_list (pv 0) pe_int (fun _ _ => rfl)) (pv 4)) (pe_op op_add (pe_op op_mul pe_int (pe_ix ix_list (pv 0) pe_int (fun _ _ => rfl))) pe_int)) (pe_op op_mul pe_int (pe_ix ix_list (pv 0) pe_int (fun _ _ => rfl)))))
      (pss_cons (ps_set (i := 5) sc_law_coin.nd rfl (Or.inl rfl) (pe_op op_mod (pe_op op_pow (pv 5) pe_int) (pv 4)))
      (pss_cons (ps_set (i := 6) sc_law_coin.nd rfl (Or.inl rfl) (pe_op op_add (pe_op op_add (pe_op op_mul (pv 5) (pv 5)) (pe_op op_mod (pe_ix ix_list (pv 0) pe_int (fun _ _ => rfl)) pe_int)) (pe_ix ix_list (pv 0) pe_int (fun _ _ => rfl))))
      (pss_one (ps_ret (pe_op op_mod (pe_op op_fdivW (pe_op op_mod (pe_op op_pow (pv 6) pe_int) (pe_ix ix_list (pv 3) (pe_op op_mod (pe_op op_add (pe_ix ix_list (pv 0) pe_int (fun _ _ => rfl)) pe_int) pe_int) (fun _ _ => rfl))) pe_int) (pv 1))))))))))), ?_⟩
    refine ⟨_, rfl, p, _, _, _, rfl, rfl, SqL.of hp, rfl, _, rfl, _, _, rfl, rfl, _, rfl, ite2 (fun c => ?_) (fun c => ?_)⟩
    · refine ⟨_, rfl, p, _, _, _, rfl, rfl, SqL.of hp, rfl, _, rfl, _, _, rfl, rfl, m0, ?_⟩
      refine ⟨_, rfl, p, _, _, _, rfl, rfl, SqL.of hp, rfl, _, rfl, _, _, rfl, rfl, mw, _, rfl, p, _, _, 0, rfl, rfl, hp, rfl, ?_⟩
      refine ⟨_, rfl, ?_⟩
      exact k _ _ (Int.emod_nonneg _ (by omega)) (Int.emod_lt_of_pos _ m0) ⟨own / many, seed, cnt, upd_same, Int.ediv_nonneg h1 (by omega), h2, h3, h4, by omega⟩ (fun b o nb hb => by rw [upd_ne nb]; exact hb)
    · -- purse[2] = purse[2] + 1
      refine ⟨_, rfl, p, _, _, _, rfl, rfl, SqL.of hp, rfl, _, _, rfl, rfl, _, rfl, p, _, _, 2, rfl, rfl, hp, rfl, ?_⟩
      obtain ⟨H1, e1⟩ : ∃ H1, H1 = upd H p (.lst [.int own, .int seed, .int (cnt + 1)]) := ⟨_, rfl⟩
      have p1 : H1 p = some (.lst [.int own, .int seed, .int (cnt + 1)]) := by rw [e1]; exact upd_same
      have k1 : Keep p H H1 := fun b o nb hb => by rw [e1, upd_ne nb]; exact hb
      show tSeq _ _ _ _ (upd H p (.lst [.int own, .int seed, .int (cnt + 1)]))
      rw [← e1]
      clear e1
      refine ⟨(by show 8 ≤ sizeLine; decide), fun q nq => ?_⟩
      obtain ⟨H2, e2⟩ : ∃ H2, H2 = upd H1 q (.lst primesL) := ⟨_, rfl⟩
      have q2 : H2 q = some (.lst primesL) := by rw [e2]; exact upd_same
      have s2 : Same H1 H2 := by rw [e2]; exact Same.new nq
      have p2 := s2 _ _ p1
      show tSeq _ _ _ _ (upd H1 q (.lst primesL))
      rw [← e2]
      clear e2
      obtain ⟨pr, a1, a2, a3⟩ := prime_at (i := (cnt + 1) % 8) (by omega) (by omega)
      obtain ⟨pr', b1, b2, b3⟩ := prime_at (i := (cnt + 1 + 3) % 8) (by omega) (by omega)
      have pr0 : (0 : Int) < pr := by omega
      have pr0' : (0 : Int) < pr' := by omega
      refine ⟨_, rfl, _, rfl, p, _, _, _, rfl, rfl, SqL.of p2, rfl, _, _, rfl, rfl, (by show (0 : Int) < 8; decide), q, _, _, _, rfl, rfl, SqL.of q2, a1, ?_⟩
      have x1 : 0 ≤ seed % pr := Int.emod_nonneg _ (by omega)
      have x2 : seed % pr < pr := Int.emod_lt_of_pos _ pr0
      refine ⟨_, rfl, p, _, _, _, rfl, rfl, SqL.of p2, rfl, _, rfl, _, _, rfl, rfl, pr0, _, rfl, p, _, _, _, rfl, rfl, SqL.of p2, rfl, _, _, rfl, rfl, .inl ⟨by decide, by decide⟩, _, _, rfl, rfl, _, _, rfl, rfl, .inl ⟨by omega, by omega⟩, _, rfl, p, _, _, _, rfl, rfl, SqL.of p2, rfl, _, _, rfl, rfl, .inl ⟨by decide, by decide⟩, _, _, rfl, rfl, ?_⟩
      have y1 : 0 ≤ seed % pr * (2 * (cnt + 1) + 5) := Int.mul_nonneg x1 (by omega)
      have y2 : seed % pr * (2 * (cnt + 1) + 5) ≤ 2147483489 * (2 * (cnt + 1) + 5) := Int.mul_le_mul_of_nonneg_right (by omega) (by omega)
      have z1 : 0 ≤ seed % pr * (2 * (cnt + 1) + 5) + 6007 * (cnt + 1) := by omega
      have z2 : seed % pr * (2 * (cnt + 1) + 5) + 6007 * (cnt + 1) < 2 ^ 64 := by omega
      have z3 : (seed % pr * (2 * (cnt + 1) + 5) + 6007 * (cnt + 1)).natAbs < 2 ^ 64 := by omega
      refine ⟨_, rfl, _, _, rfl, rfl, ⟨by decide, by decide, z3⟩, _, rfl, _, _, rfl, rfl, pr0, ?_⟩
      obtain ⟨one2, e2⟩ : ∃ one2, one2 = (seed % pr * (2 * (cnt + 1) + 5) + 6007 * (cnt + 1)) ^ (3 : Int).toNat % pr := ⟨_, rfl⟩
      have w1 : 0 ≤ one2 := e2 ▸ Int.emod_nonneg _ (by omega)
      have w2 : one2 < pr := e2 ▸ Int.emod_lt_of_pos _ pr0
      show tSeq _ _ _ [some (.ref p), some (.int many), none, some (.ref q), some (.int pr), some (.int ((seed % pr * (2 * (cnt + 1) + 5) + 6007 * (cnt + 1)) ^ (3 : Int).toNat % pr)), none] H2
      rw [← e2]
      clear e2
      refine ⟨_, rfl, _, rfl, _, _, rfl, rfl, .inl ⟨by omega, by omega⟩, _, rfl, p, _, _, _, rfl, rfl, SqL.of p2, rfl, _, _, rfl, rfl, (by show (0 : Int) < 1000033; decide), _, _, rfl, rfl, _, rfl, p, _, _, _, rfl, rfl, SqL.of p2, rfl, _, _, rfl, rfl, ?_⟩
      have v1 : 0 ≤ one2 * one2 := Int.mul_nonneg w1 w1
      have v2 : one2 * one2 ≤ 2147483489 * one2 := Int.mul_le_mul_of_nonneg_right (by omega) w1
      have t3 : (one2 * one2 + seed % 1000033 + (cnt + 1)).natAbs < 2 ^ 64 := by omega
      refine ⟨_, rfl, _, _, rfl, rfl, ⟨by decide, by decide, t3⟩, _, rfl, _, rfl, p, _, _, _, rfl, rfl, SqL.of p2, rfl, _, _, rfl, rfl, _, _, rfl, rfl, (by show (0 : Int) < 8; decide), q, _, _, _, rfl, rfl, SqL.of q2, b1, _, _, rfl, rfl, pr0', _, _, rfl, rfl, wide_div (b := 4) (by decide) (by decide) (by decide) (by decide), _, rfl, _, _, rfl, rfl, m0, ?_⟩
      exact k _ _ (Int.emod_nonneg _ (by omega)) (Int.emod_lt_of_pos _ m0) ⟨own, seed, cnt + 1, p2, h1, h2, h3, by omega, by omega⟩ (k1.trans (Keep.same s2))

/-! ### lets -/
def prV : Option Int → V
  | none => .non
  | some i => .int i
def letsM (pr : Option Int) (side : Str) (o : Int) : Bool :=
  match pr with
  | none => true
  | some p => if side = "buy" then decide (o ≤ p) else decide (p ≤ o)
def spLets : Sp := fun vs H Q _ => ∃ (pr : Option Int) (side : Str) (o : Int), vs = [prV pr, .str side, .int o] ∧ Q (.bl (letsM pr side o)) H
abbrev s_lets : Stmt := topS 2
theorem sc_lets : FnScope ["price", "side", "other"] ["price", "side", "other"] (defScope s_lets) := ⟨rfl, rfl, rfl, by decide +kernel, rfl, by decide +kernel, by decide +kernel⟩
theorem ok_lets {f : Addr} {fd : FuncData} (F : Fun K "lets" "lets" s_lets f fd) (T : Txt mg) : FnOk P w K mg base CX0 1 f fd ["price", "side", "other"] spLets := by
  refine F.ok sc_lets (fun vs H Q E h => ?_) (fun cdv A outer s H vs Q E hr h => ?_)
  · obtain ⟨p, many, n, rfl, _⟩ := h
    rfl
  · obtain ⟨pr, side, o, rfl, k⟩ := h
    obtain ⟨tB, mB⟩ := T.mg_BUY
    refine ⟨_, (pss_cons (ps_if (pt_cmpR op_isN (pv 0) pe_non (nomark _)) (pss_one (ps_ret pe_bl)) pss_nil)
      (pss_cons (ps_if (pt_cmpR op_eq (pv 1) (pe_glob (v := .str "buy") rfl mB ⟨_, rfl⟩) (nomark _)) (pss_one (ps_ret (pe_cmpR op_ge (pv 0) (pv 2) (nomark _)))) pss_nil)
      (pss_one (ps_ret (pe_cmpR op_le (pv 0) (pv 2) (nomark _)))))), ?_⟩
    cases pr with
    | none =>
      refine ⟨_, rfl, rfl, _, rfl, iteT ?_⟩
      exact k
    | some i =>
      refine ⟨_, rfl, rfl, _, rfl, iteF ?_⟩
      refine ⟨_, rfl, rfl, _, rfl, ite2 (fun c => ?_) (fun c => ?_)⟩
      · have c1 : side = "buy" := by
          have c2 := of_decide_eq_true c
          injection c2
        refine ⟨_, rfl, _, rfl, _, _, rfl, rfl, ?_⟩
        have e : letsM (some i) side o = decide (o ≤ i) := by
          show (if side = "buy" then decide (o ≤ i) else decide (i ≤ o)) = _
          rw [if_pos c1]
        rw [e] at k
        exact k
      · have c1 : ¬ side = "buy" := fun q => c (decide_eq_true (congrArg V.str q))
        refine ⟨_, rfl, _, rfl, _, _, rfl, rfl, ?_⟩
        have e : letsM (some i) side o = decide (i ≤ o) := by
          show (if side = "buy" then decide (o ≤ i) else decide (i ≤ o)) = _
          rw [if_neg c1]
        rw [e] at k
        exact k

theorem lself (x : Int) (s : Str) : letsM (some x) s x = true := by
  show (if s = "buy" then decide (x ≤ x) else decide (x ≤ x)) = true
  rw [ite_self]
  exact decide_eq_true (Int.le_refl x)
theorem lb (x y : Int) : letsM (some x) "buy" y = decide (y ≤ x) := by
  show (if ("buy" : Str) = "buy" then decide (y ≤ x) else decide (x ≤ y)) = _
  rw [if_pos rfl]
theorem nsb : ¬ ("sell" : Str) = "buy" := by decide +kernel
theorem ls (x y : Int) : letsM (some x) "sell" y = decide (x ≤ y) := by
  show (if ("sell" : Str) = "buy" then decide (y ≤ x) else decide (x ≤ y)) = _
  rw [if_neg nsb]
/-! ### the law -/
def spLaw (K : PySem.W.Frag) : Sp := fun vs H Q _ => ∃ (a : Addr) (ns : List Int), vs = [.ref a] ∧ SqL K H a (ns.map V.int) ∧ ns.length ≤ 63 ∧ ∀ H', Q (.bl true) H'
/-- a pair that was told as due -/
def Pair (H : Hp) (x : V) : Prop := ∃ (t : Addr) (b : Bool), x = .ref t ∧ H t = some (.tup [.bl b, .bl b])
theorem Pair.same {H H' : Hp} {x : V} (s : Same H H') (h : Pair H x) : Pair H' x := by
  obtain ⟨t, b, e, h⟩ := h
  exact ⟨t, b, e, s _ _ h⟩
/-- the list of pairs as it has grown -/
def Pairs (a : Addr) (w1 : Option V) (p : Addr) (j : Nat) (first other : Int) (w7 w8 : Option V) (n : Nat) (H : Hp) : L2.St → Hp → Prop := fun σ h => ∃ (l : Addr) (xs : List V), σ = [some (.ref a), w1, some (.ref p), some (.int (0 + (j : Int))), some (.int first), some (.int other), some (.ref l), w7, w8] ∧
  h l = some (.lst xs) ∧ xs.length = n ∧ (∀ x ∈ xs, Pair h x) ∧ Same H h ∧ Pu h p (5 * j + 5)
theorem pairs_mk {a : Addr} {w1 : Option V} {p : Addr} {j : Nat} {first other : Int} {w7 w8 : Option V} {H h : Hp} {t1 t2 l : Addr} {b1 b2 c1 c2 : Bool} (s : Same H h) (u : Pu h p (5 * j + 5)) (n1 : h t1 = none) (n2 : upd h t1 (.tup [.bl b1, .bl c1]) t2 = none)
    (n3 : upd (upd h t1 (.tup [.bl b1, .bl c1])) t2 (.tup [.bl b2, .bl c2]) l = none) (e1 : b1 = c1) (e2 : b2 = c2) :
    Pairs a w1 p j first other w7 w8 2 H [some (.ref a), w1, some (.ref p), some (.int (0 + (j : Int))), some (.int first), some (.int other), some (.ref l), w7, w8] (upd (upd (upd h t1 (.tup [.bl b1, .bl c1])) t2 (.tup [.bl b2, .bl c2])) l (.lst [.ref t1, .ref t2])) := by
  subst e1 e2
  have g1 := Same.new n1 (o := .tup [.bl b1, .bl b1])
  have g2 := Same.new n2 (o := .tup [.bl b2, .bl b2])
  have g3 := Same.new n3 (o := .lst [.ref t1, .ref t2])
  refine ⟨l, _, rfl, upd_same, rfl, fun x hx => ?_, s.trans (g1.trans (g2.trans g3)), u.same (g1.trans (g2.trans g3))⟩
  rcases List.mem_cons.mp hx with e | hx
  · exact ⟨t1, b1, e, g3 _ _ (g2 _ _ upd_same)⟩
  · exact ⟨t2, b2, List.mem_singleton.mp hx, g3 _ _ upd_same⟩
theorem pairs_more {p : Addr} {j : Nat} {H h : Hp} {l0 t1 t2 l : Addr} {xs : List V} {b1 b2 c1 c2 : Bool} (s : Same H h) (u : Pu h p (5 * j + 5)) (hl : h l0 = some (.lst xs)) (hP : ∀ x ∈ xs, Pair h x) (n1 : h t1 = none) (n2 : upd h t1 (.tup [.bl b1, .bl c1]) t2 = none)
    (n3 : upd (upd h t1 (.tup [.bl b1, .bl c1])) t2 (.tup [.bl b2, .bl c2]) l = none) (e1 : b1 = c1) (e2 : b2 = c2) :
    (upd (upd (upd h t1 (.tup [.bl b1, .bl c1])) t2 (.tup [.bl b2, .bl c2])) l (.lst [.ref t1, .ref t2])) l0 = some (.lst xs) ∧ (upd (upd (upd h t1 (.tup [.bl b1, .bl c1])) t2 (.tup [.bl b2, .bl c2])) l (.lst [.ref t1, .ref t2])) l = some (.lst [.ref t1, .ref t2]) ∧
    (∀ x ∈ xs ++ [.ref t1, .ref t2], Pair (upd (upd (upd h t1 (.tup [.bl b1, .bl c1])) t2 (.tup [.bl b2, .bl c2])) l (.lst [.ref t1, .ref t2])) x) ∧ Same H (upd (upd (upd h t1 (.tup [.bl b1, .bl c1])) t2 (.tup [.bl b2, .bl c2])) l (.lst [.ref t1, .ref t2])) ∧
    Pu (upd (upd (upd h t1 (.tup [.bl b1, .bl c1])) t2 (.tup [.bl b2, .bl c2])) l (.lst [.ref t1, .ref t2])) p (5 * j + 5) := by
  subst e1 e2
  have g1 := Same.new n1 (o := .tup [.bl b1, .bl b1])
  have g2 := Same.new n2 (o := .tup [.bl b2, .bl b2])
  have g3 := Same.new n3 (o := .lst [.ref t1, .ref t2])
  have g := g1.trans (g2.trans g3)
  refine ⟨g _ _ hl, upd_same, fun x hx => ?_, s.trans g, u.same g⟩
  rcases List.mem_append.mp hx with hx | hx
  · exact (hP x hx).same g
  rcases List.mem_cons.mp hx with e | hx
  · exact ⟨t1, b1, e, g3 _ _ (g2 _ _ upd_same)⟩
  · exact ⟨t2, b2, List.mem_singleton.mp hx, g3 _ _ upd_same⟩
theorem pairs_end {a : Addr} {w1 : Option V} {p : Addr} {j n : Nat} {first other : Int} {w7 w8 : Option V} {H h : Hp} {l0 t1 t2 l l2 : Addr} {xs : List V} (Z : h l0 = some (.lst xs) ∧ h l = some (.lst [.ref t1, .ref t2]) ∧ (∀ x ∈ xs ++ [.ref t1, .ref t2], Pair h x) ∧ Same H h ∧ Pu h p (5 * j + 5)) (hx : xs.length = n) (n4 : h l2 = none) :
    Pairs a w1 p j first other w7 w8 (n + 2) H [some (.ref a), w1, some (.ref p), some (.int (0 + (j : Int))), some (.int first), some (.int other), some (.ref l2), w7, w8] (upd h l2 (.lst (xs ++ [.ref t1, .ref t2]))) := by
  have g := Same.new n4 (o := .lst (xs ++ [.ref t1, .ref t2]))
  exact ⟨l2, _, rfl, upd_same, by rw [List.length_append, hx]; rfl, fun x h => (Z.2.2.1 x h).same g, Z.2.2.2.1.trans g, Z.2.2.2.2.same g⟩
abbrev s_law : Stmt := topS 6
theorem sc_law : FnScope ["script", "k", "purse", "turn", "first", "other", "pairs", "told", "due"] ["script"] (defScope s_law) := ⟨rfl, rfl, rfl, by decide +kernel, rfl, by decide +kernel, by decide +kernel⟩
theorem ok_law {f : Addr} {fd : FuncData} (F : Fun K "law" "law" s_law f fd) (T : Txt mg) (c_purse : Cal P w K mg base 1 "_law_purse" ["script", "k"] (spPurse K)) (c_coin : Cal P w K mg base 1 "_law_coin" ["purse", "many"] spCoin)
    (c_lets : Cal P w K mg base 1 "lets" ["price", "side", "other"] spLets) : FnOk P w K mg base CX0 2 f fd ["script"] (spLaw K) := by
  refine F.ok sc_law (fun vs H Q E h => ?_) (fun cdv A outer s H vs Q E hr h => ?_)
  · obtain ⟨a, ns, rfl, _⟩ := h
    rfl
  · obtain ⟨a, ns, rfl, hS, hlen, k⟩ := h
    obtain ⟨f_purse, fd_purse, G__law_purse, m__law_purse, k__law_purse, b__law_purse⟩ := c_purse
    obtain ⟨f_coin, fd_coin, G__law_coin, m__law_coin, k__law_coin, b__law_coin⟩ := c_coin
    obtain ⟨f_lets, fd_lets, G_lets, m_lets, k_lets, b_lets⟩ := c_lets
    refine ⟨_, (pss_cons (ps_for PassesOwn.never rfl (pi_range1 rfl T.b_range (pa_cons (pe_callB (call_max2 rfl) (by rfl) T.b_max (by decide +kernel) (pa_cons pe_int (pa_cons (pe_callB (call_min2 rfl) (by rfl) T.b_min (by decide +kernel) (pa_cons pe_int (pa_cons (pe_callB call_len_seq (by rfl) T.b_len PySem.boot_len (pa_cons (pv 0) pa_nil)) pa_nil))) pa_nil))) pa_nil)) (pg_name (i := 1) sc_law.nd rfl (Or.inl rfl))
       (pss_cons (ps_set (i := 2) sc_law.nd rfl (Or.inl rfl) (pe_call G__law_purse (hr.mono (by decide)) rfl m__law_purse k__law_purse b__law_purse .nil pass0 (pa_cons (pv 0) (pa_cons (pv 1) pa_nil))))
        (pss_one (ps_for PassesOwn.never rfl (pi_range1 rfl T.b_range (pa_cons pe_int pa_nil)) (pg_name (i := 3) sc_law.nd rfl (Or.inl rfl))
         (C8.pss_cut (ps_set (i := 4) sc_law.nd rfl (Or.inl rfl) (pe_ix ix_list (pe_lst (pa_cons pe_int (pa_cons (pe_op op_pow pe_int pe_int) (pa_cons (pe_op op_add pe_int (pe_call G__law_coin (hr.mono (by decide)) rfl m__law_coin k__law_coin b__law_coin .nil pass0 (pa_cons (pv 2) (pa_cons (pe_op op_pow pe_int pe_int) pa_nil)))) pa_nil)))) (pe_call G__law_coin (hr.mono (by decide)) rfl m__law_coin k__law_coin b__law_coin .nil pass0 (pa_cons (pv 2) (pa_cons pe_int pa_nil))) (fun _ _ => rfl)))
          (C8.pss_cut (ps_set (i := 5) sc_law.nd rfl (Or.inl rfl) (pe_callB (call_min2 rfl) (by rfl) T.b_min (by decide +kernel) (pa_cons (pe_op op_pow pe_int pe_int) (pa_cons (pe_callB (call_max2 rfl) (by rfl) T.b_max (by decide +kernel) (pa_cons pe_int (pa_cons (pe_op op_sub (pe_op op_add (pv 4) (pe_call G__law_coin (hr.mono (by decide)) rfl m__law_coin k__law_coin b__law_coin .nil pass0 (pa_cons (pv 2) (pa_cons pe_int pa_nil)))) pe_int) pa_nil))) pa_nil))))
          (C8.pss_cut (ps_if (pt_cmpR op_eq (pe_call G__law_coin (hr.mono (by decide)) rfl m__law_coin k__law_coin b__law_coin .nil pass0 (pa_cons (pv 2) (pa_cons pe_int pa_nil))) pe_int (nomark _)) (pss_one (ps_set (i := 5) sc_law.nd rfl (Or.inl rfl) (pe_op op_add pe_int (pe_call G__law_coin (hr.mono (by decide)) rfl m__law_coin k__law_coin b__law_coin .nil pass0 (pa_cons (pv 2) (pa_cons (pe_op op_pow pe_int pe_int) pa_nil)))))) pss_nil)
          (C8.pss_cut (ps_set (i := 6) sc_law.nd rfl (Or.inl rfl) (pe_lst (pa_cons (pe_tup (pa_cons (pe_call G_lets (hr.mono (by decide)) rfl m_lets k_lets b_lets .nil pass0 (pa_cons (pv 4) (pa_cons pe_str (pa_cons (pv 5) pa_nil)))) (pa_cons (pe_cmpR op_ge (pv 4) (pv 5) (nomark _)) pa_nil))) (pa_cons (pe_tup (pa_cons (pe_call G_lets (hr.mono (by decide)) rfl m_lets k_lets b_lets .nil pass0 (pa_cons (pv 4) (pa_cons pe_str (pa_cons (pv 5) pa_nil)))) (pa_cons (pe_cmpR op_le (pv 4) (pv 5) (nomark _)) pa_nil))) pa_nil))))
          (C8.pss_cut (ps_set (i := 6) sc_law.nd rfl (Or.inl rfl) (pe_op op_cat (pv 6) (pe_lst (pa_cons (pe_tup (pa_cons (pe_call G_lets (hr.mono (by decide)) rfl m_lets k_lets b_lets .nil pass0 (pa_cons pe_non (pa_cons pe_str (pa_cons (pv 5) pa_nil)))) (pa_cons pe_bl pa_nil))) (pa_cons (pe_tup (pa_cons (pe_call G_lets (hr.mono (by decide)) rfl m_lets k_lets b_lets .nil pass0 (pa_cons pe_non (pa_cons pe_str (pa_cons (pv 5) pa_nil)))) (pa_cons pe_bl pa_nil))) pa_nil)))))
          (C8.pss_cut (ps_set (i := 6) sc_law.nd rfl (Or.inl rfl) (pe_op op_cat (pv 6) (pe_lst (pa_cons (pe_tup (pa_cons (pe_call G_lets (hr.mono (by decide)) rfl m_lets k_lets b_lets .nil pass0 (pa_cons (pv 5) (pa_cons pe_str (pa_cons (pv 5) pa_nil)))) (pa_cons pe_bl pa_nil))) (pa_cons (pe_tup (pa_cons (pe_call G_lets (hr.mono (by decide)) rfl m_lets k_lets b_lets .nil pass0 (pa_cons (pv 5) (pa_cons pe_str (pa_cons (pv 5) pa_nil)))) (pa_cons pe_bl pa_nil))) pa_nil)))))
          (pss_one (ps_for PassesOwn.never rfl (pi_list (pv 6)) (pg_tup rfl (pgs_cons (pg_name (i := 7) sc_law.nd rfl (Or.inl rfl)) (pgs_cons (pg_name (i := 8) sc_law.nd rfl (Or.inl rfl)) pgs_nil)))
           (pss_one (ps_if (PW.pt (pw_or (pt_not (pt_val (pe_callB call_isi (by rfl) T.b_isinstance (by decide +kernel) (pa_cons (pv 7) (pa_cons (pe_bltn (v := .ty "bool") (by rfl) T.b_bool (by decide +kernel) rfl) pa_nil))))) (pw_or1 (pt_cmpR op_ne (pv 7) (pv 8) (nomark _))))) (pss_one (ps_ret pe_bl)) pss_nil))))))))))))))
      (pss_one (ps_ret pe_bl))), ?_⟩
    have hl' : ((ns.map V.int).length : Int) = (ns.length : Int) := by rw [List.length_map]
    refine ⟨_, rfl, _, _, rfl, .inl hS, _, _, rfl, _, _, rfl, _, rfl, ?lo, ?hi, ?_⟩
    case lo => rw [hl']; split <;> split <;> omega
    case hi => rw [hl']; split <;> split <;> omega
    rw [hl']
    refine for_range (lo := 0) (fun i σ H' => ∃ v1 v2 v3 v4 v5 v6 v7 v8, σ = [some (.ref a), v1, v2, v3, v4, v5, v6, v7, v8] ∧ Same H H') ⟨_, _, _, _, _, _, _, _, rfl, Same.refl H⟩ ?_ ?_
    · rintro i σ H1 hi ⟨v1, v2, v3, v4, v5, v6, v7, v8, rfl, s1⟩
      have hi8 : (0 : Int) + (i : Int) < 64 := by
        have : (i : Int) < 64 := by
          have h2 : (i : Int) < 8 := by
            have h3 := hi
            revert h3
            split <;> split <;> intro h3 <;> omega
          omega
        omega
      refine ⟨_, rfl, _, rfl, a, ns, _, rfl, s1.seq hS, hlen, by omega, hi8, fun p H2 np s2 u2 => ?_⟩
      have p0 : H p = none := s1.free np
      have s02 : Same H H2 := s1.trans s2
      refine ⟨_, rfl, by decide, by decide, ?_⟩
      refine for_range (lo := 0) (fun i σ H' => ∃ v1 v3 v4 v5 v6 v7 v8, σ = [some (.ref a), v1, some (.ref p), v3, v4, v5, v6, v7, v8] ∧ Same H H' ∧ Pu H' p (5 * i)) ⟨_, _, _, _, _, _, _, rfl, s02, u2.mono (by omega)⟩ ?_ ?_
      · rintro j σ H3 hj ⟨w1, w3, w4, w5, w6, w7, w8, rfl, s3, u3⟩
        have hj8 : (j : Int) < 8 := by
          have : j < 8 := hj
          omega
        refine ⟨fun σ h => ∃ first : Int, σ = [some (.ref a), w1, some (.ref p), some (.int (0 + (j : Int))), some (.int first), w5, w6, w7, w8] ∧ Same H h ∧ Pu h p (5 * j + 2), ?_, ?_⟩
        · refine ⟨_, _, rfl, rfl, ⟨by decide, by decide, by decide⟩, _, rfl, _, _, rfl, rfl, ⟨by decide, by decide, by decide⟩, p, _, _, rfl, u3, by omega, by decide, by decide, fun r1 H4 r1a r1b u4 k4 => ?_⟩
          have s4 := Same.keep s3 k4 p0
          refine ⟨_, _, rfl, rfl, (by show 3 ≤ sizeLine; decide), fun q nq => ?_⟩
          have s5 := s4.trans (Same.new nq (o := .lst [.int 1, .int (10 ^ (6 : Int).toNat), .int (1 + r1)]))
          have u5 := u4.same (Same.new nq (o := .lst [.int 1, .int (10 ^ (6 : Int).toNat), .int (1 + r1)]))
          refine ⟨_, rfl, p, _, _, rfl, u5, by omega, by decide, by decide, fun r2 H6 r2a r2b u6 k6 => ?_⟩
          have q6 : H6 q = some (.lst [.int 1, .int (10 ^ (6 : Int).toNat), .int (1 + r1)]) := k6 _ _ (by
            intro e
            subst e
            obtain ⟨_, _, _, e2, _⟩ := u4
            rw [nq] at e2
            cases e2) upd_same
          obtain ⟨first, hf⟩ : ∃ first : Int, atI [V.int 1, .int (10 ^ (6 : Int).toNat), .int (1 + r1)] r2 = some (.int first) := by
            have h3 : r2 = 0 ∨ r2 = 1 ∨ r2 = 2 := by omega
            rcases h3 with h3 | h3 | h3 <;> subst h3 <;> exact ⟨_, rfl⟩
          exact ⟨q, _, _, _, rfl, rfl, SqL.of q6, hf, first, rfl, Same.keep s5 k6 p0, u6.mono (by omega)⟩
        rintro σ H4 ⟨first, rfl, s4, u4⟩
        refine ⟨fun σ h => ∃ other : Int, σ = [some (.ref a), w1, some (.ref p), some (.int (0 + (j : Int))), some (.int first), some (.int other), w6, w7, w8] ∧ Same H h ∧ Pu h p (5 * j + 3), ?_, ?_⟩
        · refine ⟨_, _, rfl, rfl, ⟨by decide, by decide, by decide⟩, _, rfl, _, rfl, p, _, _, rfl, u4, by omega, by decide, by decide, fun r3 H7 r3a r3b u7 k7 => ?_⟩
          refine ⟨_, _, rfl, rfl, _, _, rfl, rfl, _, _, rfl, _, _, rfl, ?_⟩
          exact ⟨_, rfl, Same.keep s4 k7 p0, u7.mono (by omega)⟩
        rintro σ H5 ⟨other, rfl, s5, u5⟩
        refine ⟨fun σ h => ∃ other : Int, σ = [some (.ref a), w1, some (.ref p), some (.int (0 + (j : Int))), some (.int first), some (.int other), w6, w7, w8] ∧ Same H h ∧ Pu h p (5 * j + 5), ?_, ?_⟩
        · refine ⟨_, rfl, p, _, _, rfl, u5, by omega, by decide, by decide, fun r4 H8 r4a r4b u8 k8 => ?_⟩
          have s8 := Same.keep s5 k8 p0
          refine ⟨rfl, _, rfl, ite2 (fun _ => ?_) (fun _ => ?_)⟩
          · refine ⟨_, rfl, _, _, rfl, rfl, ⟨by decide, by decide, by decide⟩, p, _, _, rfl, u8, by omega, by decide, by decide, fun r5 H9 r5a r5b u9 k9 => ?_⟩
            refine ⟨_, _, rfl, rfl, ?_⟩
            exact ⟨_, rfl, Same.keep s8 k9 p0, u9.mono (by omega)⟩
          · exact ⟨_, rfl, s8, u8.mono (by omega)⟩
        rintro σ H6 ⟨other, rfl, s6, u6⟩
        refine ⟨Pairs a w1 p j first other w7 w8 2 H, ?_, ?_⟩
        · refine ⟨_, rfl, _, rfl, some first, _, other, rfl, _, rfl, _, rfl, _, _, rfl, rfl, (by show 2 ≤ sizeLine; decide), fun t1 n1 => ?_⟩
          refine ⟨_, rfl, _, rfl, some first, _, other, rfl, _, rfl, _, rfl, _, _, rfl, rfl, (by show 2 ≤ sizeLine; decide), fun t2 n2 => ?_⟩
          refine ⟨(by show 2 ≤ sizeLine; decide), fun l1 n3 => ?_⟩
          exact pairs_mk s6 u6 n1 n2 n3 (lb _ _) (ls _ _)
        rintro σ H7 ⟨l, xs, rfl, hl, hx, hP, s7, u7⟩
        refine ⟨Pairs a w1 p j first other w7 w8 4 H, ?_, ?_⟩
        · refine ⟨_, rfl, _, rfl, none, _, other, rfl, (by show 2 ≤ sizeLine; decide), fun t1 n1 => ?_⟩
          refine ⟨_, rfl, none, _, other, rfl, (by show 2 ≤ sizeLine; decide), fun t2 n2 => ?_⟩
          refine ⟨(by show 2 ≤ sizeLine; decide), fun l1 n3 => ?_⟩
          have Z := pairs_more s7 u7 hl hP n1 n2 n3 rfl rfl
          refine ⟨l, l1, _, _, rfl, rfl, Z.1, Z.2.1, (by rw [hx]; show 4 ≤ sizeLine; decide), fun l2 n4 => ?_⟩
          exact pairs_end Z hx n4
        rintro σ H8 ⟨l, xs, rfl, hl, hx, hP, s8, u8⟩
        refine ⟨Pairs a w1 p j first other w7 w8 6 H, ?_, ?_⟩
        · refine ⟨_, rfl, _, rfl, _, rfl, some other, _, other, rfl, (by show 2 ≤ sizeLine; decide), fun t1 n1 => ?_⟩
          refine ⟨_, rfl, _, rfl, some other, _, other, rfl, (by show 2 ≤ sizeLine; decide), fun t2 n2 => ?_⟩
          refine ⟨(by show 2 ≤ sizeLine; decide), fun l1 n3 => ?_⟩
          have Z := pairs_more s8 u8 hl hP n1 n2 n3 (lself _ _) (lself _ _)
          refine ⟨l, l1, _, _, rfl, rfl, Z.1, Z.2.1, (by rw [hx]; show 6 ≤ sizeLine; decide), fun l2 n4 => ?_⟩
          exact pairs_end Z hx n4
        rintro σ H9 ⟨l, xs, rfl, hl, hx, hP, s9, u9⟩
        refine ⟨_, rfl, l, rfl, ⟨_, SqL.of hl⟩, for_list (K := K) (a := l) (xs := xs) (fun i σ h => ∃ v7 v8, σ = [some (.ref a), w1, some (.ref p), some (.int (0 + (j : Int))), some (.int first), some (.int other), some (.ref l), v7, v8] ∧ h = H9)
          ⟨_, _, rfl, rfl⟩ (fun _ _ _ _ ⟨_, _, _, e⟩ => by rw [e]; exact SqL.of hl) ?_ ?_⟩
        · rintro i x σ h hi ⟨v7, v8, rfl, rfl⟩
          obtain ⟨t, b, rfl, ht⟩ := hP x (List.mem_of_getElem? hi)
          refine ⟨t, _, rfl, SqT.of ht, rfl, _, _, rfl, _, _, rfl, rfl, ?_⟩
          refine ⟨_, rfl, _, _, _, _, true, rfl, .ty "bool", .base (.bl _), kit_ty (by decide +kernel), true, rfl, ?_⟩
          refine iteF ⟨_, rfl, _, rfl, rfl, _, rfl, iteNS rfl ?_⟩
          exact ⟨_, _, rfl, rfl⟩
        · rintro σ h ⟨v7, v8, rfl, rfl⟩
          exact ⟨_, _, _, _, _, _, _, rfl, s9, u9.mono (by omega)⟩
      · rintro σ H3 ⟨w1, w3, w4, w5, w6, w7, w8, rfl, s3, u3⟩
        exact ⟨_, _, _, _, _, _, _, _, rfl, s3⟩
    · rintro σ H1 ⟨v1, v2, v3, v4, v5, v6, v7, v8, rfl, s1⟩
      exact k H1
end
/-! ### what the top has written, the end -/
theorem all_mk {l : PySem.W.OpenLaw} {w : World} {K : PySem.W.Frag} {h : Heap} {mg : Str → Option Value} {fa f1 f2 f3 f4 : Addr} (X : K.In h) (G : h.Ns mainGlobals mg) (hfa : mg "law" = some (.ref fa))
    {od1 an1 od2 an2 od3 an3 od4 an4 : Option Addr} {sl1 sl2 sl3 sl4 : Array (Option Value)} {oc1 kV1 dc1 pm1 cd1 ct1 oc2 kV2 dc2 pm2 cd2 ct2 oc3 kV3 dc3 pm3 cd3 ct3 oc4 kV4 dc4 pm4 cd4 ct4 : Value}
    (a1 : PySem.W.nsIn K mainGlobals "lets" = some (some (.ref f1))) (l1 : K.lookup f1 = some ⟨oc1, od1, .func (PySem.W.fnOf "lets" "lets" (defArgs s_lets) (defBody s_lets) (defScope s_lets) .none kV1 dc1 pm1 an1 cd1 ct1), sl1⟩) (c1 : PySem.W.codeIn K cd1 "lets" = true) (k1 : PySem.W.keepIn K (.ref f1) = true)
    (a2 : PySem.W.nsIn K mainGlobals "_law_purse" = some (some (.ref f2))) (l2 : K.lookup f2 = some ⟨oc2, od2, .func (PySem.W.fnOf "_law_purse" "_law_purse" (defArgs s_law_purse) (defBody s_law_purse) (defScope s_law_purse) .none kV2 dc2 pm2 an2 cd2 ct2), sl2⟩) (c2 : PySem.W.codeIn K cd2 "_law_purse" = true) (k2 : PySem.W.keepIn K (.ref f2) = true)
    (a3 : PySem.W.nsIn K mainGlobals "_law_coin" = some (some (.ref f3))) (l3 : K.lookup f3 = some ⟨oc3, od3, .func (PySem.W.fnOf "_law_coin" "_law_coin" (defArgs s_law_coin) (defBody s_law_coin) (defScope s_law_coin) .none kV3 dc3 pm3 an3 cd3 ct3), sl3⟩) (c3 : PySem.W.codeIn K cd3 "_law_coin" = true) (k3 : PySem.W.keepIn K (.ref f3) = true)
    (a4 : PySem.W.nsIn K mainGlobals "law" = some (some (.ref f4))) (l4 : K.lookup f4 = some ⟨oc4, od4, .func (PySem.W.fnOf "law" "law" (defArgs s_law) (defBody s_law) (defScope s_law) .none kV4 dc4 pm4 an4 cd4 ct4), sl4⟩) (c4 : PySem.W.codeIn K cd4 "law" = true) (k4 : PySem.W.keepIn K (.ref f4) = true)
    (z0 : PySem.W.nsIn K mainGlobals "len" = some none)
    (z1 : PySem.W.nsIn K mainGlobals "max" = some none)
    (z2 : PySem.W.nsIn K mainGlobals "min" = some none)
    (z3 : PySem.W.nsIn K mainGlobals "range" = some none)
    (z4 : PySem.W.nsIn K mainGlobals "bool" = some none)
    (z5 : PySem.W.nsIn K mainGlobals "isinstance" = some none)
    {t0 : Tok} (gl_0 : PySem.W.nsIn K mainGlobals "BUY" = some (some (.str "buy" t0)))
    : ∃ fd : FuncData, (∀ (s : Shared) (v : Value), BindsTo s fd ⟨[v], []⟩ [("script", v)]) ∧ ∀ base : Heap, K.In base → base.Ns mainGlobals mg → FnOk l.prog w K mg base CX0 2 fa fd ["script"] (spLaw K) := by
  have e := hfa.symm.trans (PySem.W.mg_of X G a4)
  cases e
  have T : Txt mg := ⟨PySem.W.mg_none_of X G z0, PySem.W.mg_none_of X G z1, PySem.W.mg_none_of X G z2, PySem.W.mg_none_of X G z3, PySem.W.mg_none_of X G z4, PySem.W.mg_none_of X G z5, ⟨_, PySem.W.mg_of X G gl_0⟩⟩
  have F1 := fun_mk (st := s_lets) l1 c1 k1
  have b1 := F1.binds (ps := ["price", "side", "other"]) fun _ _ _ _ _ _ us hl => match us, hl with | [_, _, _], _ => rfl
  have F2 := fun_mk (st := s_law_purse) l2 c2 k2
  have b2 := F2.binds (ps := ["script", "k"]) fun _ _ _ _ _ _ us hl => match us, hl with | [_, _], _ => rfl
  have F3 := fun_mk (st := s_law_coin) l3 c3 k3
  have b3 := F3.binds (ps := ["purse", "many"]) fun _ _ _ _ _ _ us hl => match us, hl with | [_, _], _ => rfl
  have F4 := fun_mk (st := s_law) l4 c4 k4
  refine ⟨PySem.W.fnOf "law" "law" (defArgs s_law) (defBody s_law) (defScope s_law) .none kV4 dc4 pm4 an4 cd4 ct4, fun s v => .of_eq rfl, fun base _ _ => ?_⟩
  have C1 : Cal l.prog w K mg base 1 "lets" ["price", "side", "other"] (spLets) := ⟨f1, _, ok_lets F1 T, PySem.W.mg_of X G a1, k1, b1⟩
  have C2 : Cal l.prog w K mg base 1 "_law_purse" ["script", "k"] (spPurse K) := ⟨f2, _, ok_purse F2 T, PySem.W.mg_of X G a2, k2, b2⟩
  have C3 : Cal l.prog w K mg base 1 "_law_coin" ["purse", "many"] (spCoin) := ⟨f3, _, ok_coin F3, PySem.W.mg_of X G a3, k3, b3⟩
  exact ok_law F4 T C2 C3 C1
theorem walk {l : PySem.W.OpenLaw} {q : Program} {loose : List Str} {XP : (Str → Option Value) → Heap → Prop} {YP : World → Heap → Prop} {d : DefRec} {K : Params → PySem.W.Frag} (hn : l.most = some 63) (hdf : d.params.defaults = [])
    (hY : ∀ (w : World) (h : Heap), YP w h → (K w.params).In h)
    (F : ∀ (w : World) (mg : Str → Option Value) (fa : Addr) (h : Heap), (K w.params).In h → h.Ns mainGlobals mg → mg d.name = some (.ref fa) →
      ∃ fd : FuncData, (∀ (s : Shared) (u : Value), BindsTo s fd ⟨[u], []⟩ [("script", u)]) ∧ ∀ base : Heap, (K w.params).In base → base.Ns mainGlobals mg → FnOk l.prog w (K w.params) mg base CX0 2 fa fd ["script"] (spLaw (K w.params))) :
    PySem.W.WalkO q loose XP YP l.row.toRowW d [] (fun f vs => PySem.call f vs) :=
  L2.walk_of (n := 63) (k := 2) (x := "script") (CX := fun _ => CX0) (sp := fun w => spLaw (K w.params)) hn (by decide) hdf ⟨rfl, by decide, by decide⟩ hY F (fun _ _ a ns hl _ hS => ⟨a, ns, rfl, hS, hl, fun _ => rfl⟩) fun _ _ _ _ _ z => z
end Rh
open PySem PySem.W PyProof.Rows
set_option maxRecDepth 100000 in
set_option maxHeartbeats 0 in
theorem PySem.Challenge.cw_ringhall_k06_prices_let_by_holds : PySem.Challenge.rw_ringhall_k06_prices_let_by.Holds := by
  w_on; o_law; k_head; (case hw => w_witness2)
  k_fill
  refine Rh.walk (l := PySem.Challenge.rw_ringhall_k06_prices_let_by) rfl rfl (fun w h Y => PySem.W.kIn_of Y) ?F
  case F =>
    intro w mg fa h KX G hmg
    refine' Rh.all_mk KX G hmg ?a1 ?l1 ?c1 ?k1 ?a2 ?l2 ?c2 ?k2 ?a3 ?l3 ?c3 ?k3 ?a4 ?l4 ?c4 ?k4 ?z0 ?z1 ?z2 ?z3 ?z4 ?z5 ?gl_0
    (case a1 => k_is)
    (case l1 => k_is)
    (case c1 => k_is)
    (case k1 => k_is)
    (case a2 => k_is)
    (case l2 => k_is)
    (case c2 => k_is)
    (case k2 => k_is)
    (case a3 => k_is)
    (case l3 => k_is)
    (case c3 => k_is)
    (case k3 => k_is)
    (case a4 => k_is)
    (case l4 => k_is)
    (case c4 => k_is)
    (case k4 => k_is)
    (case z0 => k_is)
    (case z1 => k_is)
    (case z2 => k_is)
    (case z3 => k_is)
    (case z4 => k_is)
    (case z5 => k_is)
    (case gl_0 => k_is)
