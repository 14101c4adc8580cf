import PyProof.Rows.All
import Wide.All
import OpenK.AllK
import Wide.FinOn
import HandS.ForMost
import HandS.IsInst
import HandS.Wide
import HandS.Codes
import HandS.Walk
import HandS.FStr
import HandS.Defaults
import HandS.MakeKwOnly
import HandS.SlotsOwn
import PySem.Challenge.RW_ringhall_k04_orders_written
set_option Elab.async false
set_option linter.all false
set_option maxRecDepth 100000
set_option exponentiation.threshold 2000
namespace Rh
open PySem L2
def topS (i : Nat) : Stmt := PySem.Challenge.pw_ringhall_k04_orders_written.main.body.getD i (.Pass ⟨0, 0, 0, 0⟩)
/-! ### the purse -/
def Pu (H : Hp) (p : Addr) (n : Int) : Prop := ∃ own seed cnt : Int, H p = some (.lst [.int own, .int seed, .int cnt]) ∧ 0 ≤ own ∧ 0 ≤ seed ∧ seed < 2 ^ 63 ∧ 0 ≤ cnt ∧ cnt ≤ n
def Keep (p : Addr) (H H' : Hp) : Prop := ∀ b o, b ≠ p → H b = some o → H' b = some o
theorem Keep.refl (p : Addr) (H : Hp) : Keep p H H := fun _ _ _ h => h
theorem Keep.trans {p : Addr} {H H1 H2 : Hp} (a : Keep p H H1) (b : Keep p H1 H2) : Keep p H H2 := fun c o n h => b c o n (a c o n h)
theorem Keep.same {p : Addr} {H H' : Hp} (s : Same H H') : Keep p H H' := fun c o _ h => s c o h
theorem Same.keep {p : Addr} {H0 H H' : Hp} (s : Same H0 H) (k : Keep p H H') (n : H0 p = none) : Same H0 H' := fun b o h => k b o (ne_of_none h n) (s b o h)
theorem Same.new {H : Hp} {p : Addr} {o : HO} (h : H p = none) : Same H (upd H p o) := fun a u e => by
  rw [upd_ne (ne_of_none e h)]
  exact e
theorem Pu.same {H H' : Hp} {p : Addr} {n : Int} (u : Pu H p n) (s : Same H H') : Pu H' p n := by
  obtain ⟨a, b, c, h, r⟩ := u
  exact ⟨a, b, c, s _ _ h, r⟩
theorem Pu.mono {H : Hp} {p : Addr} {n m : Int} (u : Pu H p n) (h : n ≤ m) : Pu H p m := by
  obtain ⟨a, b, c, h1, h2, h3, h4, h5, h6⟩ := u
  exact ⟨a, b, c, h1, h2, h3, h4, h5, by omega⟩

def spPurse (K : PySem.W.Frag) : Sp := fun vs H Q _ => ∃ (a : Addr) (ns : List Int) (k : Int), vs = [.ref a, .int k] ∧ SqL K H a (ns.map V.int) ∧ ns.length ≤ 63 ∧ 0 ≤ k ∧ k < 64 ∧ ∀ p H', H p = none → Same H H' → Pu H' p 0 → Q (.ref p) H'
def spCoin : Sp := fun vs H Q _ => ∃ (p : Addr) (many n : Int), vs = [.ref p, .int many] ∧ Pu H p n ∧ n < 2 ^ 30 ∧ 1 ≤ many ∧ many < 2 ^ 300 ∧
  ∀ r H', 0 ≤ r → r < many → Pu H' p (n + 1) → Keep p H H' → Q (.int r) H'

/-- a def that stands under its name and keeps its promise -/
def Cal (P : Program) (w : World) (K : PySem.W.Frag) (mg : Str → Option Value) (base : Heap) (k : Nat) (x : Str) (ps : List Str) (sp : Sp) : Prop :=
  ∃ (f : Addr) (fd : FuncData), FnOk P w K mg base CX0 k f fd ps sp ∧ mg x = some (.ref f) ∧ PySem.W.keepIn K (.ref f) = true ∧ Binds K fd ps []

abbrev primesL : List V := [.int 2147483489, .int 2147483477, .int 2147483423, .int 2147483399, .int 2147483353, .int 2147483323, .int 2147483269, .int 2147483249]
theorem prime_at {i : Int} (h0 : 0 ≤ i) (h8 : i < 8) : ∃ v : Int, atI primesL i = some (.int v) ∧ 2147483249 ≤ v ∧ v ≤ 2147483489 := by
  have h : i = 0 ∨ i = 1 ∨ i = 2 ∨ i = 3 ∨ i = 4 ∨ i = 5 ∨ i = 6 ∨ i = 7 := by omega
  rcases h with h | h | h | h | h | h | h | h <;> subst h <;> exact ⟨_, rfl, by decide, by decide⟩

theorem yesC {σ : L2.St} {H : Hp} {A B : Hp → Prop} (h : A H) : tYes σ H (fun b H3 => if b = true then A H3 else B H3) := by
  show (if true = true then A H else B H)
  rw [if_pos rfl]
  exact h

structure Txt (mg : Str → Option Value) : Prop where
  b_len : mg "len" = none
  b_max : mg "max" = none
  b_min : mg "min" = none
  b_range : mg "range" = none
  b_bool : mg "bool" = none
  b_isinstance : mg "isinstance" = none
  b_int : mg "int" = none
  b_str : mg "str" = none
  b_all : mg "all" = none
  mg_HIGHEST_PRICE : ∃ t, mg "HIGHEST_PRICE" = some (.int 1000000 t)
  mg_HIGHEST_AMOUNT : ∃ t, mg "HIGHEST_AMOUNT" = some (.int 1000000000 t)
  mg_LONGEST_NAME : ∃ t, mg "LONGEST_NAME" = some (.int 8 t)
  mg_BUY : ∃ t, mg "BUY" = some (.str "buy" t)
  mg_SELL : ∃ t, mg "SELL" = some (.str "sell" t)
  mg_REST : ∃ t, mg "REST" = some (.str "rest" t)
  mg_NOW : ∃ t, mg "NOW" = some (.str "now" t)
  mg_WHOLE : ∃ t, mg "WHOLE" = some (.str "whole" t)
  mg_ONLY : ∃ t, mg "ONLY" = some (.str "only" t)
  mg_OLD : ∃ t, mg "OLD" = some (.str "old" t)
  mg_NEW : ∃ t, mg "NEW" = some (.str "new" t)
  mg_BOTH : ∃ t, mg "BOTH" = some (.str "both" t)
  mg_LESS : ∃ t, mg "LESS" = some (.str "less" t)
  mg_MOST_PARTS : ∃ t, mg "MOST_PARTS" = some (.int 20 t)
section
variable {P : Program} {w : World} {K : PySem.W.Frag} {mg : Str → Option Value} {base : Heap}
abbrev s_law_purse : Stmt := topS 30
theorem sc_law_purse : FnScope ["script", "k", "cell", "own"] ["script", "k"] (defScope s_law_purse) := ⟨rfl, rfl, rfl, by decide +kernel, rfl, by decide +kernel, by decide +kernel⟩
theorem ok_purse {f : Addr} {fd : FuncData} (F : Fun K "_law_purse" "_law_purse" s_law_purse f fd) (T : Txt mg) : FnOk P w K mg base CX0 1 f fd ["script", "k"] (spPurse K) := by
  refine F.ok sc_law_purse (fun vs H Q E h => ?_) (fun cdv A outer s H vs Q E hr h => ?_)
  · obtain ⟨a, ns, k, rfl, _⟩ := h
    rfl
  · obtain ⟨a, ns, k, rfl, hS, hlen, hk0, hk1, q⟩ := h
    refine ⟨_, (pss_cons (ps_set (i := 2) sc_law_purse.nd rfl (Or.inl rfl) (pe_op op_add (pe_op op_mul pe_int (pv 1)) pe_int))
          (pss_cons (ps_if (pt_cmpR op_lt (pv 1) (pe_callB call_len_seq (by rfl) T.b_len PySem.boot_len (pa_cons (pv 0) pa_nil)) (nomark _)) (pss_one (ps_set (i := 2) sc_law_purse.nd rfl (Or.inl rfl) (pe_ix ix_list (pv 0) (pv 1) (fun _ _ => rfl)))) pss_nil)
          (pss_cons (ps_set (i := 3) sc_law_purse.nd rfl (Or.inl rfl) pe_int)
          (pss_cons (ps_if (pt_cmpR op_ge (pv 2) (pe_op op_pow pe_int pe_int) (nomark _)) (pss_one (ps_set (i := 3) sc_law_purse.nd rfl (Or.inl rfl) (pe_op op_sub (pv 2) (pe_op op_pow pe_int pe_int)))) pss_nil)
          (pss_one (ps_ret (pe_lst (pa_cons (pv 3) (pa_cons (pe_op op_add (pe_op op_mod (pv 2) pe_int) (pe_op op_mul pe_int (pv 1))) (pa_cons pe_int pa_nil)))))))))), ?_⟩
    have fin : ∀ cell own : Int, 0 ≤ own → ∀ p, H p = none → Q (.ref p) (upd H p (.lst [.int own, .int (cell % 4611686018427387847 + 53 * k), .int 0])) := fun cell own ho p np =>
      q p _ np (Same.new np) ⟨own, _, 0, upd_same, ho, by omega, by omega, by omega, by omega⟩
    have tail : ∀ cell : Int, ∀ σ : St, σ = [some (.ref a), some (.int k), some (.int cell), none] → True := fun _ _ _ => trivial
    refine ⟨_, rfl, _, _, rfl, rfl, .inl ⟨by decide, by decide⟩, _, _, rfl, rfl, ?_⟩
    refine ⟨_, rfl, _, rfl, _, _, rfl, .inl hS, _, _, rfl, rfl, _, rfl, ite2 (fun c => ?_) (fun c => ?_)⟩
    · have c1 : k < (ns.length : Int) := by
        have c2 := of_decide_eq_true c
        rw [List.length_map] at c2
        exact c2
      have c3 : (ns.map V.int)[k.toNat]? = some (V.int (ns.getD k.toNat 0)) := by
        have c4 : k.toNat < ns.length := by omega
        rw [List.getElem?_map, List.getElem?_eq_getElem c4, List.getD_eq_getElem?_getD, List.getElem?_eq_getElem c4]
        rfl
      have c5 : atI (ns.map V.int) k = some (V.int (ns.getD k.toNat 0)) := by
        have c6 := atI_nat c3
        rw [Int.toNat_of_nonneg hk0] at c6
        exact c6
      refine ⟨_, rfl, _, rfl, a, _, _, _, rfl, rfl, hS, c5, ?_⟩
      refine ⟨_, rfl, _, _, rfl, rfl, ⟨by decide, by decide, by decide⟩, _, _, rfl, rfl, _, rfl, ite2 (fun d => ?_) (fun d => ?_)⟩
      · refine ⟨_, rfl, _, _, rfl, rfl, ⟨by decide, by decide, by decide⟩, _, _, rfl, rfl, ?_⟩
        refine ⟨_, rfl, _, rfl, _, _, rfl, rfl, (by show (0 : Int) < 4611686018427387847; decide), _, rfl, _, _, rfl, rfl, .inl ⟨by decide, by decide⟩, _, _, rfl, rfl, (by show 3 ≤ sizeLine; decide), fun p np => fin _ _ ?_ p np⟩
        have d1 := of_decide_eq_true d
        exact Int.sub_nonneg_of_le d1
      · refine ⟨_, rfl, _, rfl, _, _, rfl, rfl, (by show (0 : Int) < 4611686018427387847; decide), _, rfl, _, _, rfl, rfl, .inl ⟨by decide, by decide⟩, _, _, rfl, rfl, (by show 3 ≤ sizeLine; decide), fun p np => fin _ _ (by decide) p np⟩
    · refine ⟨_, rfl, _, _, rfl, rfl, ⟨by decide, by decide, by decide⟩, _, _, rfl, rfl, _, rfl, ite2 (fun d => ?_) (fun d => ?_)⟩
      · refine ⟨_, rfl, _, _, rfl, rfl, ⟨by decide, by decide, by decide⟩, _, _, rfl, rfl, ?_⟩
        refine ⟨_, rfl, _, rfl, _, _, rfl, rfl, (by show (0 : Int) < 4611686018427387847; decide), _, rfl, _, _, rfl, rfl, .inl ⟨by decide, by decide⟩, _, _, rfl, rfl, (by show 3 ≤ sizeLine; decide), fun p np => fin _ _ ?_ p np⟩
        have d1 := of_decide_eq_true d
        exact Int.sub_nonneg_of_le d1
      · refine ⟨_, rfl, _, rfl, _, _, rfl, rfl, (by show (0 : Int) < 4611686018427387847; decide), _, rfl, _, _, rfl, rfl, .inl ⟨by decide, by decide⟩, _, _, rfl, rfl, (by show 3 ≤ sizeLine; decide), fun p np => fin _ _ (by decide) p np⟩
abbrev s_law_coin : Stmt := topS 31
theorem sc_law_coin : FnScope ["purse", "many", "digit", "primes", "prime", "one", "two"] ["purse", "many"] (defScope s_law_coin) := ⟨rfl, rfl, rfl, by decide +kernel, rfl, by decide +kernel, by decide +kernel⟩
theorem ok_coin {f : Addr} {fd : FuncData} (F : Fun K "_law_coin" "_law_coin" s_law_coin f fd) : FnOk P w K mg base CX0 1 f fd ["purse", "many"] spCoin := by
  refine F.ok sc_law_coin (fun vs H Q E h => ?_) (fun cdv A outer s H vs Q E hr h => ?_)
  · obtain ⟨p, many, n, rfl, _⟩ := h
    rfl
  · obtain ⟨p, many, n, rfl, ⟨own, seed, cnt, hp, h1, h2, h3, h4, h5⟩, hn, hm1, hm2, k⟩ := h
    have m0 : (0 : Int) < many := by omega
    have mw : CDivW own many := wide_div m0 (b := 300) (by omega) (by decide) (by decide)
    refine ⟨_, (pss_cons (ps_if (pt_cmpR op_ge (pe_ix ix_list (pv 0) pe_int (fun _ _ => rfl)) (pv 1) (nomark _)) (pss_cons (ps_set (i := 2) sc_law_coin.nd rfl (Or.inl rfl) (pe_op op_mod (pe_ix ix_list (pv 0) pe_int (fun _ _ => rfl)) (pv 1)))
            (pss_cons (ps_asg (pe_op op_fdivW (pe_ix ix_list (pv 0) pe_int (fun _ _ => rfl)) (pv 1)) (pg_sub (pv 0) pe_int set_list))
            (pss_one (ps_ret (pv 2))))) pss_nil)
          (pss_cons (ps_asg (pe_op op_add (pe_ix ix_list (pv 0) pe_int (fun _ _ => rfl)) pe_int) (pg_sub (pv 0) pe_int set_list))
          (pss_cons (ps_set (i := 3) sc_law_coin.nd rfl (Or.inl rfl) (pe_lst (pa_cons pe_int (pa_cons pe_int (pa_cons pe_int (pa_cons pe_int (pa_cons pe_int (pa_cons pe_int (pa_cons pe_int (pa_cons pe_int pa_nil))))))))))
          (pss_cons (ps_set (i := 4) sc_law_coin.nd rfl (Or.inl rfl) (pe_ix ix_list (pv 3) (pe_op op_mod (pe_ix ix_list (pv 0) pe_int (fun _ _ => rfl)) pe_int) (fun _ _ => rfl)))
          (pss_cons (ps_set (i := 5) sc_law_coin.nd rfl (Or.inl rfl) (pe_op op_add (pe_op op_mul (pe_op op_mod (pe_ix ix_list (pv 0) pe_int (fun _ _ => rfl)) (pv 4)) (pe_op op_add (pe_op op_mul pe_int (pe_ix ix_list (pv 0) pe_int (fun _ _ => rfl))) pe_int)) (pe_op op_mul pe_int (pe_ix ix_list (pv 0) pe_int (fun _ _ => rfl)))))
          (pss_cons (ps_set (i := 5) sc_law_coin.nd rfl (Or.inl rfl) (pe_op op_mod (pe_op op_pow (pv 5) pe_int) (pv 4)))
          (pss_cons (ps_set (i := 6) sc_law_coin.nd rfl (Or.inl rfl) (pe_op op_add (pe_op op_add (pe_op op_mul (pv 5) (pv 5)) (pe_op op_mod (pe_ix ix_list (pv 0) pe_int (fun _ _ => rfl)) pe_int)) (pe_ix ix_list (pv 0) pe_int (fun _ _ => rfl))))
          (pss_one (ps_ret (pe_op op_mod (pe_op op_fdivW (pe_op op_mod (pe_op op_pow (pv 6) pe_int) (pe_ix ix_list (pv 3) (pe_op op_mod (pe_op op_add (pe_ix ix_list (pv 0) pe_int (fun _ _ => rfl)) pe_int) pe_int) (fun _ _ => rfl))) pe_int) (pv 1))))))))))), ?_⟩
    refine ⟨_, rfl, p, _, _, _, rfl, rfl, SqL.of hp, rfl, _, rfl, _, _, rfl, rfl, _, rfl, ite2 (fun c => ?_) (fun c => ?_)⟩
    · refine ⟨_, rfl, p, _, _, _, rfl, rfl, SqL.of hp, rfl, _, rfl, _, _, rfl, rfl, m0, ?_⟩
      refine ⟨_, rfl, p, _, _, _, rfl, rfl, SqL.of hp, rfl, _, rfl, _, _, rfl, rfl, mw, _, rfl, p, _, _, 0, rfl, rfl, hp, rfl, ?_⟩
      refine ⟨_, rfl, ?_⟩
      exact k _ _ (Int.emod_nonneg _ (by omega)) (Int.emod_lt_of_pos _ m0) ⟨own / many, seed, cnt, upd_same, Int.ediv_nonneg h1 (by omega), h2, h3, h4, by omega⟩ (fun b o nb hb => by rw [upd_ne nb]; exact hb)
    · -- purse[2] = purse[2] + 1
      refine ⟨_, rfl, p, _, _, _, rfl, rfl, SqL.of hp, rfl, _, _, rfl, rfl, _, rfl, p, _, _, 2, rfl, rfl, hp, rfl, ?_⟩
      obtain ⟨H1, e1⟩ : ∃ H1, H1 = upd H p (.lst [.int own, .int seed, .int (cnt + 1)]) := ⟨_, rfl⟩
      have p1 : H1 p = some (.lst [.int own, .int seed, .int (cnt + 1)]) := by rw [e1]; exact upd_same
      have k1 : Keep p H H1 := fun b o nb hb => by rw [e1, upd_ne nb]; exact hb
      show tSeq _ _ _ _ (upd H p (.lst [.int own, .int seed, .int (cnt + 1)]))
      rw [← e1]
      clear e1
      refine ⟨(by show 8 ≤ sizeLine; decide), fun q nq => ?_⟩
      obtain ⟨H2, e2⟩ : ∃ H2, H2 = upd H1 q (.lst primesL) := ⟨_, rfl⟩
      have q2 : H2 q = some (.lst primesL) := by rw [e2]; exact upd_same
      have s2 : Same H1 H2 := by rw [e2]; exact Same.new nq
      have p2 := s2 _ _ p1
      show tSeq _ _ _ _ (upd H1 q (.lst primesL))
      rw [← e2]
      clear e2
      obtain ⟨pr, a1, a2, a3⟩ := prime_at (i := (cnt + 1) % 8) (by omega) (by omega)
      obtain ⟨pr', b1, b2, b3⟩ := prime_at (i := (cnt + 1 + 3) % 8) (by omega) (by omega)
      have pr0 : (0 : Int) < pr := by omega
      have pr0' : (0 : Int) < pr' := by omega
      refine ⟨_, rfl, _, rfl, p, _, _, _, rfl, rfl, SqL.of p2, rfl, _, _, rfl, rfl, (by show (0 : Int) < 8; decide), q, _, _, _, rfl, rfl, SqL.of q2, a1, ?_⟩
      have x1 : 0 ≤ seed % pr := Int.emod_nonneg _ (by omega)
      have x2 : seed % pr < pr := Int.emod_lt_of_pos _ pr0
      refine ⟨_, rfl, p, _, _, _, rfl, rfl, SqL.of p2, rfl, _, rfl, _, _, rfl, rfl, pr0, _, rfl, p, _, _, _, rfl, rfl, SqL.of p2, rfl, _, _, rfl, rfl, .inl ⟨by decide, by decide⟩, _, _, rfl, rfl, _, _, rfl, rfl, .inl ⟨by omega, by omega⟩, _, rfl, p, _, _, _, rfl, rfl, SqL.of p2, rfl, _, _, rfl, rfl, .inl ⟨by decide, by decide⟩, _, _, rfl, rfl, ?_⟩
      have y1 : 0 ≤ seed % pr * (2 * (cnt + 1) + 5) := Int.mul_nonneg x1 (by omega)
      have y2 : seed % pr * (2 * (cnt + 1) + 5) ≤ 2147483489 * (2 * (cnt + 1) + 5) := Int.mul_le_mul_of_nonneg_right (by omega) (by omega)
      have z1 : 0 ≤ seed % pr * (2 * (cnt + 1) + 5) + 6007 * (cnt + 1) := by omega
      have z2 : seed % pr * (2 * (cnt + 1) + 5) + 6007 * (cnt + 1) < 2 ^ 64 := by omega
      have z3 : (seed % pr * (2 * (cnt + 1) + 5) + 6007 * (cnt + 1)).natAbs < 2 ^ 64 := by omega
      refine ⟨_, rfl, _, _, rfl, rfl, ⟨by decide, by decide, z3⟩, _, rfl, _, _, rfl, rfl, pr0, ?_⟩
      obtain ⟨one2, e2⟩ : ∃ one2, one2 = (seed % pr * (2 * (cnt + 1) + 5) + 6007 * (cnt + 1)) ^ (3 : Int).toNat % pr := ⟨_, rfl⟩
      have w1 : 0 ≤ one2 := e2 ▸ Int.emod_nonneg _ (by omega)
      have w2 : one2 < pr := e2 ▸ Int.emod_lt_of_pos _ pr0
      show tSeq _ _ _ [some (.ref p), some (.int many), none, some (.ref q), some (.int pr), some (.int ((seed % pr * (2 * (cnt + 1) + 5) + 6007 * (cnt + 1)) ^ (3 : Int).toNat % pr)), none] H2
      rw [← e2]
      clear e2
      refine ⟨_, rfl, _, rfl, _, _, rfl, rfl, .inl ⟨by omega, by omega⟩, _, rfl, p, _, _, _, rfl, rfl, SqL.of p2, rfl, _, _, rfl, rfl, (by show (0 : Int) < 1000033; decide), _, _, rfl, rfl, _, rfl, p, _, _, _, rfl, rfl, SqL.of p2, rfl, _, _, rfl, rfl, ?_⟩
      have v1 : 0 ≤ one2 * one2 := Int.mul_nonneg w1 w1
      have v2 : one2 * one2 ≤ 2147483489 * one2 := Int.mul_le_mul_of_nonneg_right (by omega) w1
      have t3 : (one2 * one2 + seed % 1000033 + (cnt + 1)).natAbs < 2 ^ 64 := by omega
      refine ⟨_, rfl, _, _, rfl, rfl, ⟨by decide, by decide, t3⟩, _, rfl, _, rfl, p, _, _, _, rfl, rfl, SqL.of p2, rfl, _, _, rfl, rfl, _, _, rfl, rfl, (by show (0 : Int) < 8; decide), q, _, _, _, rfl, rfl, SqL.of q2, b1, _, _, rfl, rfl, pr0', _, _, rfl, rfl, wide_div (b := 4) (by decide) (by decide) (by decide) (by decide), _, rfl, _, _, rfl, rfl, m0, ?_⟩
      exact k _ _ (Int.emod_nonneg _ (by omega)) (Int.emod_lt_of_pos _ m0) ⟨own, seed, cnt + 1, p2, h1, h2, h3, by omega, by omega⟩ (k1.trans (Keep.same s2))

/-! ### names -/
def lettersS : Str := "abcdefghijklmnopqrstuvwxyz"
theorem letters_cps : lettersS.cps.toList = List.range' 97 26 := by decide +kernel
theorem letters_len : lettersS.length ≤ sizeLine := by
  have h : lettersS.length = 26 := by decide +kernel
  rw [h]
  decide
theorem letter_at {i : Int} (h0 : 0 ≤ i) (h : i < 26) : atI lettersS.cps.toList i = some (97 + i.toNat) := by
  rw [letters_cps]
  have e : (List.range' 97 26)[i.toNat]? = some (97 + i.toNat) := by
    rw [List.getElem?_range' (by omega), Nat.one_mul]
  have k := atI_nat e
  rw [Int.toNat_of_nonneg h0] at k
  exact k
def Letters (s : Str) : Prop := ∀ c ∈ s.cps.toList, 97 ≤ c ∧ c ≤ 122
def NameS (s : Str) : Prop := 1 ≤ s.length ∧ s.length ≤ 8 ∧ Letters s
theorem Str_len (s : Str) : s.length = s.cps.toList.length := by
  show s.cps.size = _
  rw [Array.length_toList]
theorem joinL_nil : ∀ ps : List (List Nat), TL.joinL [] ps = ps.flatten
  | [] => rfl
  | [p] => by simp [TL.joinL]
  | p :: q :: r => by
    have h := joinL_nil (q :: r)
    show p ++ ([] ++ TL.joinL [] (q :: r)) = _
    rw [h]
    rfl
theorem join_tl (ys : List Str) : (Txt.join "" ys).cps.toList = (ys.map fun s => s.cps.toList).flatten := by
  have e : TL.tl (Txt.join "" ys) = TL.joinL (TL.tl "") (ys.map TL.tl) := by
    rw [TL.join_eq, TL.tl_join]
  have e2 : TL.tl ("" : Str) = [] := by decide +kernel
  rw [e2, joinL_nil] at e
  exact e
theorem flat_len : ∀ ys : List Str, (∀ s ∈ ys, s.length = 1) → (ys.map fun s => s.cps.toList).flatten.length = ys.length
  | [], _ => rfl
  | y :: ys, h => by
    have h1 := h y List.mem_cons_self
    have h2 := flat_len ys fun s hs => h s (List.mem_cons_of_mem _ hs)
    rw [Str_len] at h1
    show (y.cps.toList ++ _).length = _
    rw [List.length_append, h1, h2, List.length_cons]
    omega
theorem join_len {ys : List Str} (h : ∀ s ∈ ys, s.length = 1) : (Txt.join "" ys).length = ys.length := by
  rw [Str_len, join_tl, flat_len ys h]
theorem join_letters {ys : List Str} (h : ∀ s ∈ ys, Letters s) : Letters (Txt.join "" ys) := fun c hc => by
  rw [join_tl] at hc
  obtain ⟨l, hl, hcl⟩ := List.mem_flatten.mp hc
  obtain ⟨s, hs, rfl⟩ := List.mem_map.mp hl
  exact h s hs c hcl
theorem sum_ones : ∀ ys : List Str, (∀ s ∈ ys, s.length = 1) → (ys.map (·.length)).sum = ys.length
  | [], _ => rfl
  | y :: ys, h => by
    have h1 := h y List.mem_cons_self
    have h2 := sum_ones ys fun s hs => h s (List.mem_cons_of_mem _ hs)
    show y.length + (ys.map (·.length)).sum = _
    rw [h1, h2, List.length_cons]
    omega
theorem sign_len (c : Nat) : (⟨#[c]⟩ : Str).length = 1 := rfl
theorem sign_letters {c : Nat} (h1 : 97 ≤ c) (h2 : c ≤ 122) : Letters ⟨#[c]⟩ := fun d hd => by
  have e : d = c := by simpa using hd
  omega
theorem name_mk {s : Str} {c : Nat} (h1 : s.length ≤ 7) (h2 : Letters s) (h3 : 97 ≤ c) (h4 : c ≤ 122) : NameS (s ++ ⟨#[c]⟩) := by
  have e : (s ++ (⟨#[c]⟩ : Str)).length = s.length + 1 := by rw [Str.length_append, sign_len]
  refine ⟨by omega, by omega, fun d hd => ?_⟩
  rw [Str.cps_append, Array.toList_append, List.mem_append] at hd
  rcases hd with hd | hd
  · exact h2 d hd
  · exact sign_letters h3 h4 d hd
theorem small_size {n : Nat} (h : n ≤ 100000) : n ≤ sizeLine := Nat.le_trans h (by decide)
def spNames : Sp := fun vs H Q _ => ∃ (p : Addr) (many n : Int), vs = [.ref p, .int many] ∧ Pu H p n ∧ 0 ≤ many ∧ many ≤ 1000 ∧ n + 9 * many < 2 ^ 30 ∧
  ∀ (q : Addr) (ns : List Str) (H' : Hp), H q = none → (ns.length : Int) = many → (∀ s ∈ ns, NameS s) → H' q = some (.lst (ns.map V.str)) → Pu H' p (n + 9 * many) → Keep p H H' → Q (.ref q) H'
abbrev s_law_names : Stmt := topS 32
theorem sc_law_names : FnScope ["purse", "many", "letters", "found", "at", "word", "turn"] ["purse", "many"] (defScope s_law_names) := ⟨rfl, rfl, rfl, by decide +kernel, rfl, by decide +kernel, by decide +kernel⟩
theorem ok_names {f : Addr} {fd : FuncData} (F : Fun K "_law_names" "_law_names" s_law_names f fd) (T : Txt mg) (c_coin : Cal P w K mg base 1 "_law_coin" ["purse", "many"] spCoin) : FnOk P w K mg base CX0 2 f fd ["purse", "many"] spNames := by
  refine F.ok sc_law_names (fun vs H Q E h => ?_) (fun cdv A outer s H vs Q E hr h => ?_)
  · obtain ⟨p, many, n, rfl, _⟩ := h
    rfl
  · obtain ⟨p, many, n, rfl, u, hm0, hm1, hn, k⟩ := h
    obtain ⟨f_coin, fd_coin, G_coin, m_coin, k_coin, b_coin⟩ := c_coin
    refine ⟨_, (pss_cons (ps_set (i := 2) sc_law_names.nd rfl (Or.inr rfl) pe_str)
          (pss_cons (ps_set (i := 3) sc_law_names.nd rfl (Or.inl rfl) (pe_lst pa_nil))
          (pss_cons (ps_for PassesOwn.never rfl (pi_range1 rfl T.b_range (pa_cons (pv 1) pa_nil)) (pg_name (i := 4) sc_law_names.nd rfl (Or.inl rfl))
           (pss_cons (ps_set (i := 5) sc_law_names.nd rfl (Or.inl rfl) (pe_m1 PySem.F.slot_str_join PySem.F.type_str_join mt_join pe_str (pe_lc (own := [("turn", 6)]) (g := gName 6) (tt := tYes) rfl sc_law_names.nd (pi_range1 rfl T.b_range (pa_cons (pe_call G_coin (hr.mono (by decide)) rfl m_coin k_coin b_coin .nil pass0 (pa_cons (pv 0) (pa_cons pe_int pa_nil))) pa_nil)) (blkOk_by (N := ["purse", "many", "letters", "found", "at", "word", "turn"]) (sc := defScope s_law_names) (by decide +kernel)) (fun _ _ _ _ _ => (pg_name (i := 6) sc_law_names.nd rfl (Or.inl rfl))) (fun _ _ _ _ _ => pts_nil) (fun _ _ _ _ _ => (pe_ix ix_str (pv 2) (pe_call G_coin (hr.mono (by decide)) rfl m_coin k_coin b_coin .nil pass0 (pa_cons (pv 0) (pa_cons pe_int pa_nil))) (fun _ _ => rfl))))))
            (pss_one (ps_expr (pe_bm PySem.F.plainAttrs_list PySem.F.slot_list_append PySem.F.type_list_append mt_append (pv 3) (pa_cons (pe_op op_add_str (pv 5) (pe_ix ix_str (pv 2) (pe_op op_mod (pe_op op_add (pv 4) (pe_op op_mul (pe_call G_coin (hr.mono (by decide)) rfl m_coin k_coin b_coin .nil pass0 (pa_cons (pv 0) (pa_cons pe_int pa_nil))) pe_int)) pe_int) (fun _ _ => rfl))) pa_nil))))))
          (pss_one (ps_ret (pv 3)))))), ?_⟩
    refine ⟨Nat.zero_le _, fun q nq => ?_⟩
    have pq : p ≠ q := by
      obtain ⟨_, _, _, e, _⟩ := u
      exact ne_of_none e nq
    have kq : Keep p H (upd H q (.lst [])) := Keep.same (Same.new nq)
    refine ⟨_, rfl, _, rfl, by omega, by omega, for_range (lo := 0) (fun i σ h => ∃ (ns : List Str) (v4 v5 v6 : Option V), σ = [some (.ref p), some (.int many), some (.str lettersS), some (.ref q), v4, v5, v6] ∧ ns.length = i ∧ (∀ s ∈ ns, NameS s) ∧ h q = some (.lst (ns.map V.str)) ∧ Keep p H h ∧ Pu h p (n + 9 * i))
      ⟨[], _, _, _, rfl, rfl, (fun s hs => by cases hs), upd_same, kq, (u.same (Same.new nq)).mono (by omega)⟩ ?_ ?_⟩
    · rintro i σ h hi ⟨ns, v4, v5, v6, rfl, hl, hN, hq, kp, u1⟩
      have hi2 : (i : Int) < many := by
        have : i < many.toNat := hi
        omega
      refine ⟨⟨_, rfl⟩, _, rfl, p, _, _, rfl, u1, by omega, by decide, by decide, fun r h2 ra rb u2 k2 => ?_⟩
      have hq2 := k2 _ _ pq.symm hq
      refine ⟨_, rfl, by omega, by omega, fun D nD => ?_⟩
      have qD : q ≠ D := ne_of_none hq2 nD
      have pD : p ≠ D := by
        obtain ⟨_, _, _, e, _⟩ := u2
        exact ne_of_none e nD
      have kD : Keep p H (upd h2 D (.lst [])) := (kp.trans k2).trans (Keep.same (Same.new nD))
      refine lc_range (lo := 0) (fun j g => ∃ ys : List Str, ys.length = j ∧ (∀ s ∈ ys, s.length = 1) ∧ (∀ s ∈ ys, Letters s) ∧ g D = some (.lst (ys.map V.str)) ∧ g q = some (.lst (ns.map V.str)) ∧ (∀ b o, b ≠ p → b ≠ D → h2 b = some o → g b = some o) ∧ Pu g p (n + 9 * i + 1 + j))
        ⟨[], rfl, (fun s hs => by cases hs), (fun s hs => by cases hs), upd_same, (by rw [upd_ne qD]; exact hq2), (fun b o _ nb e => by rw [upd_ne nb]; exact e), (u2.same (Same.new nD)).mono (by omega)⟩ ?_ ?_
      · rintro j g hj ⟨ys, hy, hy1, hyL, hD, hq3, kp3, u3⟩
        have hj2 : (j : Int) < r := by
          have : j < r.toNat := hj
          omega
        refine ⟨rfl, yesC ⟨_, rfl, _, rfl, p, _, _, rfl, u3, by omega, by decide, by decide, fun r2 g2 r2a r2b u4 k4 => ?_⟩⟩
        have hD2 := k4 _ _ pD.symm hD
        refine ⟨lettersS, _, _, rfl, rfl, letters_len, letter_at r2a r2b, _, hD2, by rw [List.length_map]; exact Nat.lt_of_lt_of_le (show ys.length < 100 by omega) (by decide), ?_⟩
        have uD : ∀ b, b ≠ D → (upd g2 D (.lst (ys.map V.str ++ [.str ⟨#[97 + r2.toNat]⟩]))) b = g2 b := fun b nb => upd_ne nb
        refine ⟨ys ++ [⟨#[97 + r2.toNat]⟩], by rw [List.length_append, hy]; rfl, fun s hs => ?_, fun s hs => ?_, by rw [upd_same, List.map_append]; rfl, by rw [uD _ qD]; exact k4 _ _ pq.symm hq3, fun b o np nb e => by rw [uD _ nb]; exact k4 _ _ np (kp3 b o np nb e), ?_⟩
        · rcases List.mem_append.mp hs with hs | hs
          · exact hy1 s hs
          · rw [List.mem_singleton.mp hs]
            exact sign_len _
        · rcases List.mem_append.mp hs with hs | hs
          · exact hyL s hs
          · rw [List.mem_singleton.mp hs]
            exact sign_letters (by omega) (by omega)
        · obtain ⟨o1, o2, o3, e, r⟩ := u4.mono (show n + 9 * (i : Int) + 1 + j + 1 ≤ n + 9 * (i : Int) + 1 + ((j + 1 : Nat) : Int) by omega)
          exact ⟨o1, o2, o3, by rw [uD _ pD]; exact e, r⟩
      · rintro g ⟨ys, hy, hy1, hyL, hD, hq3, kp3, u3⟩
        have hy7 : ys.length ≤ 7 := by omega
        refine ⟨_, D, ys, rfl, rfl, .inl (SqL.of hD), ?_, ?_⟩
        · rw [sum_ones ys hy1]
          show ys.length + ys.length * 0 ≤ 16777216
          omega
        have wl := join_len hy1
        have wL := join_letters hyL
        refine ⟨_, rfl, .inl ⟨rfl, _, SqL.of hq3⟩, _, rfl, _, rfl, _, rfl, _, rfl, p, _, _, rfl, u3, by omega, by decide, by decide, fun r3 g3 r3a r3b u4 k4 => ?_⟩
        have hq4 := k4 _ _ pq.symm hq3
        refine ⟨_, _, rfl, rfl, .inr ⟨by decide, by decide⟩, _, _, rfl, rfl, _, _, rfl, rfl, (by show (0 : Int) < 26; decide), lettersS, _, _, rfl, rfl, letters_len, letter_at (Int.emod_nonneg _ (by decide)) (Int.emod_lt_of_pos _ (by decide)), _, _, rfl, rfl, ?_, ?_⟩
        · rw [sign_len, wl]
          exact small_size (by omega)
        refine ⟨q, _, _, rfl, rfl, hq4, by rw [List.length_map]; exact Nat.lt_of_lt_of_le (show ns.length < 2000 by omega) (by decide), ?_⟩
        have uq : ∀ b, b ≠ q → (upd g3 q (.lst (ns.map V.str ++ [.str (Txt.join "" ys ++ ⟨#[97 + ((0 + (i : Int) + r3 * 13) % 26).toNat]⟩)]))) b = g3 b := fun b nb => upd_ne nb
        refine ⟨ns ++ [Txt.join "" ys ++ ⟨#[97 + ((0 + (i : Int) + r3 * 13) % 26).toNat]⟩], _, _, _, rfl, by rw [List.length_append, hl]; rfl, fun s hs => ?_, by rw [List.map_append]; exact upd_same, fun b o nb e => ?_, ?_⟩
        · rcases List.mem_append.mp hs with hs | hs
          · exact hN s hs
          · rw [List.mem_singleton.mp hs]
            have z1 : 0 ≤ (0 + (i : Int) + r3 * 13) % 26 := Int.emod_nonneg _ (by decide)
            have z2 : (0 + (i : Int) + r3 * 13) % 26 < 26 := Int.emod_lt_of_pos _ (by decide)
            exact name_mk (by omega) wL (by omega) (by omega)
        · have e1 := kp b o nb e
          have nbq : b ≠ q := ne_of_none e nq
          rw [uq b nbq]
          exact k4 _ _ nb (kp3 b o nb (ne_of_none (k2 _ _ nb e1) nD) (k2 _ _ nb e1))
        · obtain ⟨o1, o2, o3, e, r⟩ := u4.mono (show n + 9 * (i : Int) + 1 + (r.toNat : Int) + 1 ≤ n + 9 * ((i + 1 : Nat) : Int) by omega)
          exact ⟨o1, o2, o3, by rw [uq _ pq]; exact e, r⟩
    · rintro σ h ⟨ns, v4, v5, v6, rfl, hl, hN, hq, kp, u1⟩
      refine ⟨_, rfl, ?_⟩
      have e : (many.toNat : Int) = many := Int.toNat_of_nonneg hm0
      exact k q ns h nq (by omega) hN hq (by rw [e] at u1; exact u1) kp

/-! ### kinds -/
/-- anything: None, a truth, a number, a text, a list, a tuple -/
def AnyV (H : Hp) : V → Prop
  | .non => True
  | .bl _ => True
  | .int _ => True
  | .str s => s.length ≤ 100000
  | .ref a => (∃ xs, H a = some (.lst xs)) ∨ ∃ xs, H a = some (.tup xs)
  | _ => False
def wholeV : V → Bool
  | .int _ => true
  | _ => false
def rangeV (lo hi : Int) : V → Bool
  | .int i => decide (lo ≤ i) && decide (i ≤ hi)
  | _ => false
def nameB (s : Str) : Bool := (decide ((1 : Int) ≤ s.length) && decide ((s.length : Int) ≤ 8)) && s.cps.toList.all fun c => decide (97 ≤ c) && decide (c ≤ 122)
def nameV : V → Bool
  | .str s => nameB s
  | _ => false
theorem nameB_of {s : Str} (h : NameS s) : nameB s = true := by
  obtain ⟨h1, h2, h3⟩ := h
  unfold nameB
  rw [Bool.and_eq_true, Bool.and_eq_true, decide_eq_true_eq, decide_eq_true_eq, List.all_eq_true]
  refine ⟨⟨by omega, by omega⟩, fun c hc => ?_⟩
  rw [Bool.and_eq_true, decide_eq_true_eq, decide_eq_true_eq]
  exact h3 c hc
def spWhole (K : PySem.W.Frag) : Sp := fun vs H Q _ => ∃ x, vs = [x] ∧ AnyV H x ∧ Q (.bl (wholeV x)) H
abbrev s_is_whole : Stmt := topS 8
theorem sc_is_whole : FnScope ["told"] ["told"] (defScope s_is_whole) := ⟨rfl, rfl, rfl, by decide +kernel, rfl, by decide +kernel, by decide +kernel⟩
theorem ok_whole {f : Addr} {fd : FuncData} (F : Fun K "is_whole" "is_whole" s_is_whole f fd) (T : Txt mg) : FnOk P w K mg base CX0 1 f fd ["told"] (spWhole K) := by
  refine F.ok sc_is_whole (fun vs H Q E h => ?_) (fun cdv A outer s H vs Q E hr h => ?_)
  · obtain ⟨x, rfl, _⟩ := h
    rfl
  · obtain ⟨x, rfl, hx, k⟩ := h
    refine ⟨_, (pss_one (ps_ret (pe_and (pe_callB call_isi (by rfl) T.b_isinstance (by decide +kernel) (pa_cons (pv 0) (pa_cons (pe_bltn (v := .ty "int") (by rfl) T.b_int (by decide +kernel) rfl) pa_nil))) (pe_one (pe_not (pe_callB call_isi (by rfl) T.b_isinstance (by decide +kernel) (pa_cons (pv 0) (pa_cons (pe_bltn (v := .ty "bool") (by rfl) T.b_bool (by decide +kernel) rfl) pa_nil)))))))), ?_⟩
    cases x with
    | non => exact ⟨_, rfl, _, _, _, _, false, rfl, .ty "int", .base .non, kit_ty (by decide +kernel), _, rfl, iteF k⟩
    | bl b => exact ⟨_, rfl, _, _, _, _, true, rfl, .ty "int", .base (.bl _), kit_ty (by decide +kernel), _, rfl, iteT ⟨_, rfl, _, _, _, _, true, rfl, .ty "bool", .base (.bl _), kit_ty (by decide +kernel), _, rfl, k⟩⟩
    | int i => exact ⟨_, rfl, _, _, _, _, true, rfl, .ty "int", .base (.int _), kit_ty (by decide +kernel), _, rfl, iteT ⟨_, rfl, _, _, _, _, false, rfl, .ty "bool", .base (.int _), kit_ty (by decide +kernel), _, rfl, k⟩⟩
    | str t => exact ⟨_, rfl, _, _, _, _, false, rfl, .ty "int", .base (.str _), kit_ty (by decide +kernel), _, rfl, iteF k⟩
    | ref a =>
      rcases hx with ⟨xs, e⟩ | ⟨xs, e⟩
      · exact ⟨_, rfl, _, _, _, _, false, rfl, .ty "int", .base (.lst e), kit_ty (by decide +kernel), _, rfl, iteF k⟩
      · exact ⟨_, rfl, _, _, _, _, false, rfl, .ty "int", .base (.tup e), kit_ty (by decide +kernel), _, rfl, iteF k⟩
    | byt b => exact hx.elim
    | flt b => exact hx.elim
    | ty n => exact hx.elim
def spRange (lo hi : Int) : Sp := fun vs H Q _ => ∃ x, vs = [x] ∧ AnyV H x ∧ Q (.bl (rangeV lo hi x)) H
abbrev s_is_price : Stmt := topS 9
theorem sc_is_price : FnScope ["told"] ["told"] (defScope s_is_price) := ⟨rfl, rfl, rfl, by decide +kernel, rfl, by decide +kernel, by decide +kernel⟩
theorem ok_price {f : Addr} {fd : FuncData} (F : Fun K "is_price" "is_price" s_is_price f fd) (T : Txt mg) (c_whole : Cal P w K mg base 1 "is_whole" ["told"] (spWhole K)) : FnOk P w K mg base CX0 2 f fd ["told"] (spRange 1 1000000) := by
  refine F.ok sc_is_price (fun vs H Q E h => ?_) (fun cdv A outer s H vs Q E hr h => ?_)
  · obtain ⟨x, rfl, _⟩ := h
    rfl
  · obtain ⟨x, rfl, hx, k⟩ := h
    obtain ⟨f_is_whole, fd_is_whole, G_is_whole, m_is_whole, k_is_whole, b_is_whole⟩ := c_whole
    obtain ⟨_, mG_HIGHEST_PRICE⟩ := T.mg_HIGHEST_PRICE
    refine ⟨_, (pss_one (ps_ret (pe_and (pe_call G_is_whole (hr.mono (by decide)) rfl m_is_whole k_is_whole b_is_whole .nil pass0 (pa_cons (pv 0) pa_nil)) (pe_one (pe_chain op_le op_le pe_int (pv 0) (pe_glob (v := .int 1000000) rfl mG_HIGHEST_PRICE ⟨_, rfl⟩)))))), ?_⟩
    refine ⟨_, rfl, _, rfl, hx, _, rfl, ?_⟩
    cases x with
    | int i =>
      refine iteT ⟨_, rfl, _, _, rfl, rfl, _, rfl, ?_⟩
      refine ite2 (fun c => ?_) (fun c => ?_)
      · refine ⟨_, _, rfl, rfl, ?_⟩
        have e : rangeV 1 1000000 (.int i) = decide (i ≤ 1000000) := by
          show (decide ((1 : Int) ≤ i) && decide (i ≤ 1000000)) = _
          rw [c, Bool.true_and]
        rw [e] at k
        exact k
      · have e : rangeV 1 1000000 (.int i) = false := by
          show (decide ((1 : Int) ≤ i) && decide (i ≤ 1000000)) = _
          rw [Bool.eq_false_iff.mpr c, Bool.false_and]
        rw [e] at k
        exact k
    | non => exact iteF k
    | bl b => exact iteF k
    | str t => exact iteF k
    | ref a => exact iteF k
    | byt b => exact hx.elim
    | flt b => exact hx.elim
    | ty n => exact hx.elim

abbrev s_is_amount : Stmt := topS 10
theorem sc_is_amount : FnScope ["told"] ["told"] (defScope s_is_amount) := ⟨rfl, rfl, rfl, by decide +kernel, rfl, by decide +kernel, by decide +kernel⟩
theorem ok_amount {f : Addr} {fd : FuncData} (F : Fun K "is_amount" "is_amount" s_is_amount f fd) (T : Txt mg) (c_whole : Cal P w K mg base 1 "is_whole" ["told"] (spWhole K)) : FnOk P w K mg base CX0 2 f fd ["told"] (spRange 1 1000000000) := by
  refine F.ok sc_is_amount (fun vs H Q E h => ?_) (fun cdv A outer s H vs Q E hr h => ?_)
  · obtain ⟨x, rfl, _⟩ := h
    rfl
  · obtain ⟨x, rfl, hx, k⟩ := h
    obtain ⟨f_is_whole, fd_is_whole, G_is_whole, m_is_whole, k_is_whole, b_is_whole⟩ := c_whole
    obtain ⟨_, mG_HIGHEST_AMOUNT⟩ := T.mg_HIGHEST_AMOUNT
    refine ⟨_, (pss_one (ps_ret (pe_and (pe_call G_is_whole (hr.mono (by decide)) rfl m_is_whole k_is_whole b_is_whole .nil pass0 (pa_cons (pv 0) pa_nil)) (pe_one (pe_chain op_le op_le pe_int (pv 0) (pe_glob (v := .int 1000000000) rfl mG_HIGHEST_AMOUNT ⟨_, rfl⟩)))))), ?_⟩
    refine ⟨_, rfl, _, rfl, hx, _, rfl, ?_⟩
    cases x with
    | int i =>
      refine iteT ⟨_, rfl, _, _, rfl, rfl, _, rfl, ?_⟩
      refine ite2 (fun c => ?_) (fun c => ?_)
      · refine ⟨_, _, rfl, rfl, ?_⟩
        have e : rangeV 1 1000000000 (.int i) = decide (i ≤ 1000000000) := by
          show (decide ((1 : Int) ≤ i) && decide (i ≤ 1000000000)) = _
          rw [c, Bool.true_and]
        rw [e] at k
        exact k
      · have e : rangeV 1 1000000000 (.int i) = false := by
          show (decide ((1 : Int) ≤ i) && decide (i ≤ 1000000000)) = _
          rw [Bool.eq_false_iff.mpr c, Bool.false_and]
        rw [e] at k
        exact k
    | non => exact iteF k
    | bl b => exact iteF k
    | str t => exact iteF k
    | ref a => exact iteF k
    | byt b => exact hx.elim
    | flt b => exact hx.elim
    | ty n => exact hx.elim

def aS : Str := "a"
def zS : Str := "z"
theorem a_cps : aS.cps.toList = [97] := by decide +kernel
theorem z_cps : zS.cps.toList = [122] := by decide +kernel
theorem lt1 (a b : Nat) : ([a] < [b]) ↔ a < b := by
  constructor
  · intro h
    cases h with
    | rel h => exact h
    | cons h => cases h
  · intro h
    exact List.Lex.rel h
def signB (c : Nat) : Bool := decide (97 ≤ c) && decide (c ≤ 122)
theorem le_a (c : Nat) : (!decide (([c] : List Nat) < [97])) = decide (97 ≤ c) := by
  by_cases h : c < 97
  · rw [decide_eq_true ((lt1 c 97).mpr h), decide_eq_false (show ¬ 97 ≤ c by omega)]
    rfl
  · rw [decide_eq_false (fun z => h ((lt1 c 97).mp z)), decide_eq_true (show 97 ≤ c by omega)]
    rfl
theorem le_z (c : Nat) : (!decide (([122] : List Nat) < [c])) = decide (c ≤ 122) := by
  by_cases h : 122 < c
  · rw [decide_eq_true ((lt1 122 c).mpr h), decide_eq_false (show ¬ c ≤ 122 by omega)]
    rfl
  · rw [decide_eq_false (fun z => h ((lt1 122 c).mp z)), decide_eq_true (show c ≤ 122 by omega)]
    rfl
def spName : Sp := fun vs H Q _ => ∃ x, vs = [x] ∧ AnyV H x ∧ ∀ H', Same H H' → Q (.bl (nameV x)) H'
abbrev s_is_name : Stmt := topS 11
theorem sc_is_name : FnScope ["told", "sign"] ["told"] (defScope s_is_name) := ⟨rfl, rfl, rfl, by decide +kernel, rfl, by decide +kernel, by decide +kernel⟩
theorem ok_name {f : Addr} {fd : FuncData} (F : Fun K "is_name" "is_name" s_is_name f fd) (T : Txt mg) : FnOk P w K mg base CX0 1 f fd ["told"] spName := by
  refine F.ok sc_is_name (fun vs H Q E h => ?_) (fun cdv A outer s H vs Q E hr h => ?_)
  · obtain ⟨x, rfl, _⟩ := h
    rfl
  · obtain ⟨x, rfl, hx, k⟩ := h
    obtain ⟨_, mG_LONGEST_NAME⟩ := T.mg_LONGEST_NAME
    refine ⟨_, (pss_cons (ps_if (PW.pt (pw_or (pt_not (pt_val (pe_callB call_isi (by rfl) T.b_isinstance (by decide +kernel) (pa_cons (pv 0) (pa_cons (pe_bltn (v := .ty "str") (by rfl) T.b_str (by decide +kernel) rfl) pa_nil))))) (pw_or1 (pt_not (pt_chain op_le op_le pe_int (pe_callB call_len_str (by rfl) T.b_len PySem.boot_len (pa_cons (pv 0) pa_nil)) (pe_glob (v := .int 8) rfl mG_LONGEST_NAME ⟨_, rfl⟩)))))) (pss_one (ps_ret pe_bl)) pss_nil)
          (pss_one (ps_ret (pe_callB (cr_all rfl) (by rfl) T.b_all (by decide +kernel) (pa_cons (pe_lc (own := [("sign", 1)]) (g := gName 1) (tt := tYes) rfl sc_is_name.nd (pi_str (pv 0)) (blkOk_by (N := ["told", "sign"]) (sc := defScope s_is_name) (by decide +kernel)) (fun _ _ _ _ _ => (pg_name (i := 1) sc_is_name.nd rfl (Or.inl rfl))) (fun _ _ _ _ _ => pts_nil) (fun _ _ _ _ _ => (pe_chain op_le_str op_le_str pe_str (pv 1) pe_str))) pa_nil))))), ?_⟩
    cases x with
    | non => exact ⟨_, rfl, _, _, _, _, false, rfl, .ty "str", .base .non, kit_ty (by decide +kernel), _, rfl, iteT (iteT (k H (Same.refl H)))⟩
    | bl b => exact ⟨_, rfl, _, _, _, _, false, rfl, .ty "str", .base (.bl _), kit_ty (by decide +kernel), _, rfl, iteT (iteT (k H (Same.refl H)))⟩
    | int i => exact ⟨_, rfl, _, _, _, _, false, rfl, .ty "str", .base (.int _), kit_ty (by decide +kernel), _, rfl, iteT (iteT (k H (Same.refl H)))⟩
    | ref a =>
      rcases hx with ⟨xs, e⟩ | ⟨xs, e⟩
      · exact ⟨_, rfl, _, _, _, _, false, rfl, .ty "str", .base (.lst e), kit_ty (by decide +kernel), _, rfl, iteT (iteT (k H (Same.refl H)))⟩
      · exact ⟨_, rfl, _, _, _, _, false, rfl, .ty "str", .base (.tup e), kit_ty (by decide +kernel), _, rfl, iteT (iteT (k H (Same.refl H)))⟩
    | byt b => exact hx.elim
    | flt b => exact hx.elim
    | ty n => exact hx.elim
    | str t =>
      have ht : t.length ≤ sizeLine := Nat.le_trans hx (by decide)
      refine ⟨_, rfl, _, _, _, _, true, rfl, .ty "str", .base (.str _), kit_ty (by decide +kernel), _, rfl, iteF ?_⟩
      refine ⟨_, rfl, _, rfl, ht, _, _, rfl, rfl, _, rfl, ?_⟩
      have no : ∀ b : Bool, (decide ((1 : Int) ≤ t.length) && decide ((t.length : Int) ≤ 8)) = b → nameB t = (b && t.cps.toList.all fun c => decide (97 ≤ c) && decide (c ≤ 122)) := fun b e => by
        unfold nameB
        rw [e]
      refine ite2 (fun c1 => ?_) (fun c1 => ?_)
      · refine ⟨_, _, rfl, rfl, _, rfl, ?_⟩
        refine ite2 (fun c2 => ?_) (fun c2 => ?_)
        · have c3 : decide ((t.length : Int) ≤ 8) = false := by
            have c4 : (!decide ((t.length : Int) ≤ 8)) = true := c2
            rw [Bool.not_eq_true'] at c4
            exact c4
          have e := no false (by rw [c3, Bool.and_false])
          have k1 := k H (Same.refl H)
          rw [show nameV (.str t) = nameB t from rfl, e, Bool.false_and] at k1
          exact k1
        · have c3 : decide ((t.length : Int) ≤ 8) = true := by
            cases h : decide ((t.length : Int) ≤ 8) with
            | true => rfl
            | false => exact absurd (show (!decide ((t.length : Int) ≤ 8)) = true by rw [h]; rfl) c2
          have e := no true (by rw [show decide ((1 : Int) ≤ t.length) = true from c1, c3]; rfl)
          rw [Bool.true_and] at e
          have hl : t.length ≤ 8 := by
            have := of_decide_eq_true c3
            omega
          refine ⟨_, rfl, t, rfl, fun D nD => ?_⟩
          refine lc_it walk_str (fun i h => ∃ bs : List Bool, bs = (t.cps.toList.take i).map signB ∧ h D = some (.lst (bs.map V.bl)) ∧ ∀ b o, H b = some o → h b = some o)
            ⟨[], rfl, upd_same, fun b o e => by rw [upd_ne (ne_of_none e nD)]; exact e⟩ (fun _ _ _ _ => trivial) ?_ ?_
          · rintro i x h h' hi ⟨bs, rfl, hD, hk⟩ ⟨rfl, c, hc, rfl⟩
            refine ⟨rfl, yesC ?_⟩
            have hi2 : i < t.length := hi
            have el : ((t.cps.toList.take i).map signB).length = i := by
              rw [List.length_map, List.length_take, ← Str_len]
              omega
            have st : (t.cps.toList.take (i + 1)).map signB = (t.cps.toList.take i).map signB ++ [signB c] := by
              have q : t.cps.toList[i]? = some c := by rw [Array.getElem?_toList]; exact hc
              rw [List.take_add_one, q, List.map_append]
              rfl
            have fin : ∃ acc, h' D = some (.lst acc) ∧ acc.length < sizeLine ∧ ∃ bs : List Bool, bs = (t.cps.toList.take (i + 1)).map signB ∧ (upd h' D (.lst (acc ++ [.bl (signB c)]))) D = some (.lst (bs.map V.bl)) ∧ ∀ b o, H b = some o → (upd h' D (.lst (acc ++ [.bl (signB c)]))) b = some o := by
              refine ⟨_, hD, ?_, _, rfl, ?_, fun b o e => by rw [upd_ne (ne_of_none e nD)]; exact hk b o e⟩
              · rw [List.length_map, el]
                exact Nat.lt_of_lt_of_le (show i < 100 by omega) (by decide)
              · rw [upd_same, st, List.map_append]
                rfl
            refine ⟨_, rfl, aS, _, rfl, rfl, _, rfl, ?_⟩
            refine ite2 (fun d => ?_) (fun d => ?_)
            · refine ⟨_, zS, rfl, rfl, ?_⟩
              have d1 : decide (97 ≤ c) = true := by
                rw [← le_a]
                have d2 : (!decide (([c] : List Nat) < aS.cps.toList)) = true := d
                rw [a_cps] at d2
                exact d2
              have e5 : (!decide (zS.cps.toList < ([c] : List Nat))) = signB c := by
                rw [z_cps, le_z]
                unfold signB
                rw [d1, Bool.true_and]
              show ∃ acc, h' D = some (.lst acc) ∧ acc.length < sizeLine ∧ ∃ bs : List Bool, bs = (t.cps.toList.take (i + 1)).map signB ∧ (upd h' D (.lst (acc ++ [.bl (!decide (zS.cps.toList < ([c] : List Nat)))]))) D = some (.lst (bs.map V.bl)) ∧ ∀ b o, H b = some o → (upd h' D (.lst (acc ++ [.bl (!decide (zS.cps.toList < ([c] : List Nat)))]))) b = some o
              rw [e5]
              exact fin
            · have d1 : decide (97 ≤ c) = false := by
                rw [← le_a]
                have d2 : ¬ (!decide (([c] : List Nat) < aS.cps.toList)) = true := d
                rw [a_cps] at d2
                exact Bool.eq_false_iff.mpr d2
              have e5 : signB c = false := by
                unfold signB
                rw [d1, Bool.false_and]
              rw [e5] at fin
              exact fin
          · rintro h ⟨bs, rfl, hD, hk⟩
            refine ⟨D, _, rfl, SqL.of hD, ?_⟩
            have k1 := k h hk
            have e6 : ((t.cps.toList.take t.cps.size).map signB).all id = nameB t := by
              rw [e, List.take_of_length_le (by rw [Array.length_toList]; exact Nat.le_refl _), List.all_map]
              rfl
            rw [e6]
            exact k1
      · refine ⟨_, rfl, iteT ?_⟩
        have e := no false (by rw [show decide ((1 : Int) ≤ t.length) = false from Bool.eq_false_iff.mpr c1, Bool.false_and])
        have k1 := k H (Same.refl H)
        rw [show nameV (.str t) = nameB t from rfl, e, Bool.false_and] at k1
        exact k1

/-! ### orders -/
theorem fl {k : Str} {v : V} : ∀ {fs : List (Str × V)} {n : Nat}, fs.length ≤ n → (putF k v fs).length ≤ n + 1
  | [], _, _ => Nat.succ_le_succ (Nat.zero_le _)
  | (g, x) :: r, 0, h => absurd h (Nat.not_succ_le_zero _)
  | (g, x) :: r, n + 1, h => by
    show (if g = k then (g, v) :: r else (g, x) :: putF k v r).length ≤ n + 1 + 1
    have h1 : r.length ≤ n := Nat.le_of_succ_le_succ h
    split
    · exact Nat.le_succ_of_le h
    · exact Nat.succ_le_succ (fl h1)
theorem fl0 : ([] : List (Str × V)).length ≤ 0 := Nat.le_refl _
theorem few {n : Nat} {fs : List (Str × V)} (h : fs.length ≤ n) (hn : n < 1000) : fs.length < 1000 := Nat.lt_of_le_of_lt h hn
def optV : Option Int → V
  | none => .non
  | some i => .int i
structure OV where
  owner : Str
  thing : Str
  side : Str
  amount : Int
  price : Option Int
  shown : Option Int
  stop : Option Int
  life : Str
  guard : Str
def oFl (o t d : Str) (m : V) (p h s : V) (l g : Str) : List (Str × V) := [("owner", .str o), ("thing", .str t), ("side", .str d), ("amount", m), ("price", p), ("shown", h), ("stop", s), ("life", .str l), ("guard", .str g)]
def oF (o : OV) : List (Str × V) := oFl o.owner o.thing o.side (.int o.amount) (optV o.price) (optV o.shown) (optV o.stop) o.life o.guard
theorem oFl_put (o t d : Str) (m p h s : V) (l g : Str) : putF "guard" (.str g) (putF "life" (.str l) (putF "stop" s (putF "shown" h (putF "price" p (putF "amount" m (putF "side" (.str d) (putF "thing" (.str t) (putF "owner" (.str o) [])))))))) = oFl o t d m p h s l g := by kernel_rfl
theorem oFl_owner (o t d : Str) (m p h s : V) (l g : Str) : (oFl o t d m p h s l g).lookup ("owner" : Str) = some (.str o) := by kernel_rfl
theorem oFl_thing (o t d : Str) (m p h s : V) (l g : Str) : (oFl o t d m p h s l g).lookup ("thing" : Str) = some (.str t) := by kernel_rfl
theorem oFl_side (o t d : Str) (m p h s : V) (l g : Str) : (oFl o t d m p h s l g).lookup ("side" : Str) = some (.str d) := by kernel_rfl
theorem oFl_amount (o t d : Str) (m p h s : V) (l g : Str) : (oFl o t d m p h s l g).lookup ("amount" : Str) = some m := by kernel_rfl
theorem oFl_price (o t d : Str) (m p h s : V) (l g : Str) : (oFl o t d m p h s l g).lookup ("price" : Str) = some p := by kernel_rfl
theorem oFl_shown (o t d : Str) (m p h s : V) (l g : Str) : (oFl o t d m p h s l g).lookup ("shown" : Str) = some h := by kernel_rfl
theorem oFl_stop (o t d : Str) (m p h s : V) (l g : Str) : (oFl o t d m p h s l g).lookup ("stop" : Str) = some s := by kernel_rfl
theorem oFl_life (o t d : Str) (m p h s : V) (l g : Str) : (oFl o t d m p h s l g).lookup ("life" : Str) = some (.str l) := by kernel_rfl
theorem oFl_guard (o t d : Str) (m p h s : V) (l g : Str) : (oFl o t d m p h s l g).lookup ("guard" : Str) = some (.str g) := by kernel_rfl
/-- what makes an order -/
structure OV.Ok (o : OV) : Prop where
  owner : NameS o.owner
  thing : NameS o.thing
  side : o.side = "buy" ∨ o.side = "sell"
  amount : 1 ≤ o.amount ∧ o.amount ≤ 1000000000
  price : ∀ p, o.price = some p → 1 ≤ p ∧ p ≤ 1000000
  shown : ∀ p, o.shown = some p → 1 ≤ p ∧ p ≤ o.amount ∧ o.amount ≤ p * 20
  stop : ∀ p, o.stop = some p → 1 ≤ p ∧ p ≤ 1000000
  life : o.life = "rest" ∨ o.life = "now" ∨ o.life = "whole" ∨ o.life = "only"
  guard : o.guard = "old" ∨ o.guard = "new" ∨ o.guard = "both" ∨ o.guard = "less"
  stands : o.life = "rest" ∨ o.life = "only" → ∃ p, o.price = some p
  shows : ∀ p, o.shown = some p → o.life = "rest" ∨ o.life = "only"
/-- what the walk asks of the class -/
structure OTxt (K : PySem.W.Frag) (mg : Str → Option Value) (C : Addr) : Prop where
  cl : Cls K C
  n_owner : NoAttr K C "owner"
  n_thing : NoAttr K C "thing"
  n_side : NoAttr K C "side"
  n_amount : NoAttr K C "amount"
  n_price : NoAttr K C "price"
  n_shown : NoAttr K C "shown"
  n_stop : NoAttr K C "stop"
  n_life : NoAttr K C "life"
  n_guard : NoAttr K C "guard"
  mgC : mg "Order" = some (.ref C)
/-- an order stands at a -/
def OAt (C : Addr) (H : Hp) (a : Addr) (o : OV) : Prop := ∃ dx, H a = some (.ins C dx (oF o))
theorem OAt.same {C : Addr} {H H' : Hp} {a : Addr} {o : OV} (h : OAt C H a o) (s : Same H H') : OAt C H' a o := by
  obtain ⟨dx, h⟩ := h
  exact ⟨dx, s _ _ h⟩
/-! ### the first that isn't so -/
def firstW : List (Str × Bool) → V
  | [] => .non
  | (w, b) :: r => if b = true then firstW r else .str w
def Told (H : Hp) (x : V) (wb : Str × Bool) : Prop := ∃ t, x = .ref t ∧ H t = some (.tup [.str wb.1, .bl wb.2])
def spFirst (K : PySem.W.Frag) : Sp := fun vs H Q _ => ∃ (l : Addr) (xs : List V) (ws : List (Str × Bool)), vs = [.ref l] ∧ H l = some (.lst xs) ∧ Paired (Told H) xs ws ∧ Q (firstW ws) H
theorem paired_at {α β : Type} {R : α → β → Prop} : ∀ {xs : List α} {ys : List β} {i : Nat} {x : α}, Paired R xs ys → xs[i]? = some x → ∃ y, ys[i]? = some y ∧ R x y
  | _, _, _, _, .nil, e => by simp at e
  | _, _, 0, _, .cons r _, e => by simp at e; subst e; exact ⟨_, rfl, r⟩
  | _, _, i + 1, _, .cons _ k, e => by
    obtain ⟨y, h1, h2⟩ := paired_at k (i := i) (by simpa using e)
    exact ⟨y, by simpa using h1, h2⟩
abbrev s_first_wrong : Stmt := topS 24
theorem sc_first_wrong : FnScope ["parts", "word", "so"] ["parts"] (defScope s_first_wrong) := ⟨rfl, rfl, rfl, by decide +kernel, rfl, by decide +kernel, by decide +kernel⟩
theorem ok_first {f : Addr} {fd : FuncData} (F : Fun K "first_wrong" "first_wrong" s_first_wrong f fd) : FnOk P w K mg base CX0 1 f fd ["parts"] (spFirst K) := by
  refine F.ok sc_first_wrong (fun vs H Q E h => ?_) (fun cdv A outer s H vs Q E hr h => ?_)
  · obtain ⟨l, xs, ws, rfl, _⟩ := h
    rfl
  · obtain ⟨l, xs, ws, rfl, hl, hp, k⟩ := h
    refine ⟨_, (pss_cons (ps_for PassesOwn.never rfl (pi_list (pv 0)) (pg_tup rfl (pgs_cons (pg_name (i := 1) sc_first_wrong.nd rfl (Or.inl rfl)) (pgs_cons (pg_name (i := 2) sc_first_wrong.nd rfl (Or.inl rfl)) pgs_nil)))
           (pss_one (ps_if (pt_not (pt_val (pv 2))) (pss_one (ps_ret (pv 1))) pss_nil)))
          (pss_one (ps_ret pe_non))), ?_⟩
    have len : xs.length = ws.length := Paired.length hp
    refine ⟨_, rfl, l, rfl, ⟨_, SqL.of hl⟩, for_list (K := K) (a := l) (xs := xs) (fun i σ h => h = H ∧ firstW ws = firstW (ws.drop i) ∧ ∃ v1 v2, σ = [some (.ref l), v1, v2]) ⟨rfl, rfl, _, _, rfl⟩ (fun _ _ _ _ ⟨e, _⟩ => by rw [e]; exact SqL.of hl) ?_ ?_⟩
    · rintro i x σ h hi ⟨rfl, e, v1, v2, rfl⟩
      obtain ⟨⟨wd, b⟩, hw, t, rfl, ht⟩ := paired_at hp hi
      have dr : ws.drop i = (wd, b) :: ws.drop (i + 1) := by
        obtain ⟨h1, h2⟩ := List.getElem?_eq_some_iff.mp hw
        rw [List.drop_eq_getElem_cons h1, h2]
      refine ⟨t, _, rfl, SqT.of ht, rfl, _, _, rfl, _, _, rfl, rfl, ?_⟩
      refine ⟨_, rfl, b, rfl, ?_⟩
      rw [e, dr] at k
      cases b with
      | true =>
        refine iteF ?_
        refine ⟨rfl, ?_, _, _, rfl⟩
        rw [e, dr]
        exact if_pos rfl
      | false =>
        refine iteT ?_
        exact ⟨_, rfl, k⟩
    · rintro σ h ⟨rfl, e, v1, v2, rfl⟩
      rw [e, len, List.drop_length] at k
      exact k
def spEnough : Sp := fun vs H Q _ => ∃ i j : Int, vs = [.int i, .int j] ∧ -(2 ^ 64) < i ∧ i < 2 ^ 64 ∧ Q (.bl (decide (j ≤ i * 20))) H
abbrev s_shows_enough : Stmt := topS 28
theorem sc_shows_enough : FnScope ["shown", "amount"] ["shown", "amount"] (defScope s_shows_enough) := ⟨rfl, rfl, rfl, by decide +kernel, rfl, by decide +kernel, by decide +kernel⟩
theorem ok_enough {f : Addr} {fd : FuncData} (F : Fun K "shows_enough" "shows_enough" s_shows_enough f fd) (T : Txt mg) : FnOk P w K mg base CX0 1 f fd ["shown", "amount"] spEnough := by
  refine F.ok sc_shows_enough (fun vs H Q E h => ?_) (fun cdv A outer s H vs Q E hr h => ?_)
  · obtain ⟨i, j, rfl, _⟩ := h
    rfl
  · obtain ⟨i, j, rfl, h1, h2, k⟩ := h
    obtain ⟨_, mG_MOST_PARTS⟩ := T.mg_MOST_PARTS
    refine ⟨_, (pss_one (ps_ret (pe_cmpR op_le (pv 1) (pe_op op_mul (pv 0) (pe_glob (v := .int 20) rfl mG_MOST_PARTS ⟨_, rfl⟩)) (nomark _)))), ?_⟩
    exact ⟨_, rfl, _, rfl, _, _, rfl, rfl, .inl ⟨h1, h2⟩, _, _, rfl, rfl, k⟩
/-- asked of an order that is well: told None, some tuples and lists left -/
def spWell (C : Addr) : Sp := fun vs H Q _ => ∃ (a : Addr) (o : OV), vs = [.ref a] ∧ OAt C H a o ∧ o.Ok ∧ ∀ H', Same H H' → Q .non H'
theorem restonly : inV (.str "rest") [.str "rest", .str "only"] = true := by decide +kernel
theorem onlyonly : inV (.str "only") [.str "rest", .str "only"] = true := by decide +kernel
theorem nowonly : inV (.str "now") [.str "rest", .str "only"] = false := by decide +kernel
theorem wholeonly : inV (.str "whole") [.str "rest", .str "only"] = false := by decide +kernel
abbrev s_wrong_together : Stmt := topS 27
theorem sc_wrong_together : FnScope ["order", "may_stand"] ["order"] (defScope s_wrong_together) := ⟨rfl, rfl, rfl, by decide +kernel, rfl, by decide +kernel, by decide +kernel⟩
theorem ok_together {f C : Addr} {fd : FuncData} (F : Fun K "wrong_together" "wrong_together" s_wrong_together f fd) (T : Txt mg) (O : OTxt K mg C) (c_enough : Cal P w K mg base 1 "shows_enough" ["shown", "amount"] spEnough) : FnOk P w K mg base CX0 2 f fd ["order"] (spWell C) := by
  refine F.ok sc_wrong_together (fun vs H Q E h => ?_) (fun cdv A outer s H vs Q E hr h => ?_)
  · obtain ⟨a, o, rfl, _⟩ := h
    rfl
  · obtain ⟨a, o, rfl, ⟨dx, ha⟩, ok, k⟩ := h
    obtain ⟨f_shows_enough, fd_shows_enough, G_shows_enough, m_shows_enough, k_shows_enough, b_shows_enough⟩ := c_enough
    obtain ⟨_, mG_ONLY⟩ := T.mg_ONLY
    obtain ⟨_, mG_REST⟩ := T.mg_REST
    refine ⟨_, (pss_cons (ps_set (i := 1) sc_wrong_together.nd rfl (Or.inl rfl) (pe_cmpR op_in_seq (pe_fld (pv 0) rfl) (pe_tup (pa_cons (pe_glob (v := .str "rest") rfl mG_REST ⟨_, rfl⟩) (pa_cons (pe_glob (v := .str "only") rfl mG_ONLY ⟨_, rfl⟩) pa_nil))) (by rfl)))
          (pss_cons (ps_if (PW.pt (pw_and (pt_val (pv 1)) (pw_and1 (pt_cmpR op_isN (pe_fld (pv 0) rfl) pe_non (nomark _))))) (pss_one (ps_ret pe_str)) pss_nil)
          (pss_cons (ps_if (pt_cmpR op_isN (pe_fld (pv 0) rfl) pe_non (nomark _)) (pss_one (ps_ret pe_non)) pss_nil)
          (pss_cons (ps_if (PW.pt (pw_and (pt_val (pv 1)) (pw_and (pt_cmpR op_le (pe_fld (pv 0) rfl) (pe_fld (pv 0) rfl) (nomark _)) (pw_and1 (pt_val (pe_call G_shows_enough (hr.mono (by decide)) rfl m_shows_enough k_shows_enough b_shows_enough .nil pass0 (pa_cons (pe_fld (pv 0) rfl) (pa_cons (pe_fld (pv 0) rfl) pa_nil)))))))) (pss_one (ps_ret pe_non)) pss_nil)
          (pss_one (ps_ret pe_str)))))), ?_⟩
    refine ⟨_, rfl, a, C, dx, _, _, rfl, ha, O.cl, O.n_life, oFl_life .., (by show 2 ≤ sizeLine; decide), fun t nt => ?_⟩
    have s1 : Same H (upd H t (.tup [.str "rest", .str "only"])) := Same.new nt
    refine ⟨t, _, rfl, .inr (SqT.of upd_same), rfl, (by decide +kernel), ?_⟩
    have h1 := s1 _ _ ha
    have stand : ∀ b, inV (.str o.life) [.str "rest", .str "only"] = b → (b = true → (o.life = "rest" ∨ o.life = "only")) ∧ (b = false → o.shown = none) := fun b e => by
      have two : (o.life = "rest" ∨ o.life = "only") ∨ (o.life = "now" ∨ o.life = "whole") := by
        rcases ok.life with h | h | h | h
        · exact .inl (.inl h)
        · exact .inr (.inl h)
        · exact .inr (.inr h)
        · exact .inl (.inr h)
      refine ⟨fun eb => ?_, fun eb => ?_⟩
      · rcases two with h | h | h
        · exact h
        · rw [h, nowonly] at e
          rw [← e] at eb
          cases eb
        · rw [h, wholeonly] at e
          rw [← e] at eb
          cases eb
      · cases hs : o.shown with
        | none => rfl
        | some p =>
          rcases ok.shows p hs with h | h
          · rw [h, restonly] at e
            rw [← e] at eb
            cases eb
          · rw [h, onlyonly] at e
            rw [← e] at eb
            cases eb
    cases e : inV (.str o.life) [.str "rest", .str "only"] with
    | true =>
      have hl := (stand true e).1 rfl
      obtain ⟨p, hp⟩ := ok.stands hl
      refine ⟨_, rfl, true, rfl, iteT ⟨_, rfl, a, C, dx, _, _, rfl, h1, O.cl, O.n_price, oFl_price .., rfl, _, rfl, ?_⟩⟩
      rw [hp]
      refine iteF ?_
      refine ⟨_, rfl, a, C, dx, _, _, rfl, h1, O.cl, O.n_shown, oFl_shown .., rfl, _, rfl, ?_⟩
      cases hs : o.shown with
      | none => exact iteT (k _ s1)
      | some q =>
        obtain ⟨q1, q2, q3⟩ := ok.shown q hs
        have am := ok.amount
        have fs : (oF o).lookup ("shown" : Str) = some (.int q) := by
          have z := oFl_shown o.owner o.thing o.side (.int o.amount) (optV o.price) (optV o.shown) (optV o.stop) o.life o.guard
          rw [hs] at z
          unfold oF
          rw [hs]
          exact z
        refine iteF ?_
        refine ⟨_, rfl, true, rfl, iteT ⟨_, rfl, a, C, dx, _, _, rfl, h1, O.cl, O.n_shown, fs, _, rfl, a, C, dx, _, _, rfl, h1, O.cl, O.n_amount, oFl_amount .., _, _, rfl, rfl, _, rfl, ?_⟩⟩
        rw [decide_eq_true q2]
        refine iteT ⟨_, rfl, a, C, dx, _, _, rfl, h1, O.cl, O.n_shown, fs, _, rfl, a, C, dx, _, _, rfl, h1, O.cl, O.n_amount, oFl_amount .., q, o.amount, rfl, by omega, by omega, _, rfl, ?_⟩
        rw [decide_eq_true q3]
        exact iteT (k _ s1)
    | false =>
      have hs := (stand false e).2 rfl
      refine ⟨_, rfl, false, rfl, iteF (iteF ?_)⟩
      refine ⟨_, rfl, a, C, dx, _, _, rfl, h1, O.cl, O.n_shown, oFl_shown .., rfl, _, rfl, ?_⟩
      rw [hs]
      exact iteT (k _ s1)

theorem opt_ok {K : PySem.W.Frag} {σ : L2.St} {H : Hp} {i : Nat} {f : Str} {lo hi : Int} {a C dx : Addr} {fs : List (Str × V)} {o : Option Int} {E : XK} {Q : VK} (hs : σ[i]? = some (some (.ref a))) (ha : H a = some (.ins C dx fs)) (cl : Cls K C) (n : NoAttr K C f)
    (hf : fs.lookup f = some (optV o)) (ho : ∀ p, o = some p → lo ≤ p ∧ p ≤ hi) (q : Q (.bl true) H) :
    tOrV (tOp (fun x y H Q => y = .non ∧ Q (.bl (decide (x = .non))) H) (tFld K (tVar i) f) (tC .non)) (tCall (spRange lo hi) [] E (tCons (tFld K (tVar i) f) tNil)) σ H Q := by
  cases o with
  | none => exact ⟨_, hs, a, C, dx, _, _, rfl, ha, cl, n, hf, rfl, _, rfl, iteT q⟩
  | some p =>
    refine ⟨_, hs, a, C, dx, _, _, rfl, ha, cl, n, hf, rfl, _, rfl, iteF ⟨_, hs, a, C, dx, _, _, rfl, ha, cl, n, hf, .int p, rfl, trivial, ?_⟩⟩
    obtain ⟨h1, h2⟩ := ho p rfl
    have e : rangeV lo hi (.int p) = true := by
      show (decide (lo ≤ p) && decide (p ≤ hi)) = true
      rw [decide_eq_true h1, decide_eq_true h2]
      rfl
    rw [e]
    exact q
theorem in2 {s : Str} (h : s = "buy" ∨ s = "sell") : inV (.str s) [.str "buy", .str "sell"] = true := by
  rcases h with h | h <;> (rw [h]; decide +kernel)
theorem in_life {s : Str} (h : s = "rest" ∨ s = "now" ∨ s = "whole" ∨ s = "only") : inV (.str s) [.str "rest", .str "now", .str "whole", .str "only"] = true := by
  rcases h with h | h | h | h <;> (rw [h]; decide +kernel)
theorem in_guard {s : Str} (h : s = "old" ∨ s = "new" ∨ s = "both" ∨ s = "less") : inV (.str s) [.str "old", .str "new", .str "both", .str "less"] = true := by
  rcases h with h | h | h | h <;> (rw [h]; decide +kernel)
theorem range_ok {lo hi i : Int} (h : lo ≤ i ∧ i ≤ hi) : rangeV lo hi (.int i) = true := by
  show (decide (lo ≤ i) && decide (i ≤ hi)) = true
  rw [decide_eq_true h.1, decide_eq_true h.2]
  rfl
theorem name_small {s : Str} (h : NameS s) : s.length ≤ 100000 := Nat.le_trans h.2.1 (by decide)
theorem bF {a b : Bool} : (if false = true then a else b) = b := if_neg Bool.false_ne_true
theorem told_new {H H' : Hp} {t : Addr} {w : Str} {b : Bool} (h : Same (upd H t (.tup [.str w, .bl b])) H') : Told H' (.ref t) (w, b) := ⟨t, rfl, h _ _ upd_same⟩
abbrev s_wrong_part : Stmt := topS 26
theorem sc_wrong_part : FnScope ["order", "wrong"] ["order"] (defScope s_wrong_part) := ⟨rfl, rfl, rfl, by decide +kernel, rfl, by decide +kernel, by decide +kernel⟩
theorem ok_part {f C : Addr} {fd : FuncData} (F : Fun K "wrong_part" "wrong_part" s_wrong_part f fd) (T : Txt mg) (O : OTxt K mg C) (c_first : Cal P w K mg base 1 "first_wrong" ["parts"] (spFirst K)) (c_name : Cal P w K mg base 1 "is_name" ["told"] spName)
    (c_amount : Cal P w K mg base 2 "is_amount" ["told"] (spRange 1 1000000000)) (c_price : Cal P w K mg base 2 "is_price" ["told"] (spRange 1 1000000)) (c_together : Cal P w K mg base 2 "wrong_together" ["order"] (spWell C)) : FnOk P w K mg base CX0 3 f fd ["order"] (spWell C) := by
  refine F.ok sc_wrong_part (fun vs H Q E h => ?_) (fun cdv A outer s H vs Q E hr h => ?_)
  · obtain ⟨a, o, rfl, _⟩ := h
    rfl
  · obtain ⟨a, o, rfl, ⟨dx, ha⟩, ok, k⟩ := h
    obtain ⟨f_first_wrong, fd_first_wrong, G_first_wrong, m_first_wrong, k_first_wrong, b_first_wrong⟩ := c_first
    obtain ⟨f_is_name, fd_is_name, G_is_name, m_is_name, k_is_name, b_is_name⟩ := c_name
    obtain ⟨f_is_amount, fd_is_amount, G_is_amount, m_is_amount, k_is_amount, b_is_amount⟩ := c_amount
    obtain ⟨f_is_price, fd_is_price, G_is_price, m_is_price, k_is_price, b_is_price⟩ := c_price
    obtain ⟨f_wrong_together, fd_wrong_together, G_wrong_together, m_wrong_together, k_wrong_together, b_wrong_together⟩ := c_together
    obtain ⟨_, mG_BOTH⟩ := T.mg_BOTH
    obtain ⟨_, mG_BUY⟩ := T.mg_BUY
    obtain ⟨_, mG_LESS⟩ := T.mg_LESS
    obtain ⟨_, mG_NEW⟩ := T.mg_NEW
    obtain ⟨_, mG_NOW⟩ := T.mg_NOW
    obtain ⟨_, mG_OLD⟩ := T.mg_OLD
    obtain ⟨_, mG_ONLY⟩ := T.mg_ONLY
    obtain ⟨_, mG_REST⟩ := T.mg_REST
    obtain ⟨_, mG_SELL⟩ := T.mg_SELL
    obtain ⟨_, mG_WHOLE⟩ := T.mg_WHOLE
    refine ⟨_, (pss_cons (ps_set (i := 1) sc_wrong_part.nd rfl (Or.inl rfl) (pe_call G_first_wrong (hr.mono (by decide)) rfl m_first_wrong k_first_wrong b_first_wrong .nil pass0 (pa_cons (pe_lst (pa_cons (pe_tup (pa_cons pe_str (pa_cons (pe_call G_is_name (hr.mono (by decide)) rfl m_is_name k_is_name b_is_name .nil pass0 (pa_cons (pe_fld (pv 0) rfl) pa_nil)) pa_nil))) (pa_cons (pe_tup (pa_cons pe_str (pa_cons (pe_call G_is_name (hr.mono (by decide)) rfl m_is_name k_is_name b_is_name .nil pass0 (pa_cons (pe_fld (pv 0) rfl) pa_nil)) pa_nil))) (pa_cons (pe_tup (pa_cons pe_str (pa_cons (pe_cmpR op_in_seq (pe_fld (pv 0) rfl) (pe_tup (pa_cons (pe_glob (v := .str "buy") rfl mG_BUY ⟨_, rfl⟩) (pa_cons (pe_glob (v := .str "sell") rfl mG_SELL ⟨_, rfl⟩) pa_nil))) (by rfl)) pa_nil))) (pa_cons (pe_tup (pa_cons pe_str (pa_cons (pe_call G_is_amount (hr.mono (by decide)) rfl m_is_amount k_is_amount b_is_amount .nil pass0 (pa_cons (pe_fld (pv 0) rfl) pa_nil)) pa_nil))) (pa_cons (pe_tup (pa_cons pe_str (pa_cons (pe_or (pe_cmpR op_isN (pe_fld (pv 0) rfl) pe_non (nomark _)) (pe_one (pe_call G_is_price (hr.mono (by decide)) rfl m_is_price k_is_price b_is_price .nil pass0 (pa_cons (pe_fld (pv 0) rfl) pa_nil)))) pa_nil))) (pa_cons (pe_tup (pa_cons pe_str (pa_cons (pe_or (pe_cmpR op_isN (pe_fld (pv 0) rfl) pe_non (nomark _)) (pe_one (pe_call G_is_amount (hr.mono (by decide)) rfl m_is_amount k_is_amount b_is_amount .nil pass0 (pa_cons (pe_fld (pv 0) rfl) pa_nil)))) pa_nil))) (pa_cons (pe_tup (pa_cons pe_str (pa_cons (pe_or (pe_cmpR op_isN (pe_fld (pv 0) rfl) pe_non (nomark _)) (pe_one (pe_call G_is_price (hr.mono (by decide)) rfl m_is_price k_is_price b_is_price .nil pass0 (pa_cons (pe_fld (pv 0) rfl) pa_nil)))) pa_nil))) (pa_cons (pe_tup (pa_cons pe_str (pa_cons (pe_cmpR op_in_seq (pe_fld (pv 0) rfl) (pe_tup (pa_cons (pe_glob (v := .str "rest") rfl mG_REST ⟨_, rfl⟩) (pa_cons (pe_glob (v := .str "now") rfl mG_NOW ⟨_, rfl⟩) (pa_cons (pe_glob (v := .str "whole") rfl mG_WHOLE ⟨_, rfl⟩) (pa_cons (pe_glob (v := .str "only") rfl mG_ONLY ⟨_, rfl⟩) pa_nil))))) (by rfl)) pa_nil))) (pa_cons (pe_tup (pa_cons pe_str (pa_cons (pe_cmpR op_in_seq (pe_fld (pv 0) rfl) (pe_tup (pa_cons (pe_glob (v := .str "old") rfl mG_OLD ⟨_, rfl⟩) (pa_cons (pe_glob (v := .str "new") rfl mG_NEW ⟨_, rfl⟩) (pa_cons (pe_glob (v := .str "both") rfl mG_BOTH ⟨_, rfl⟩) (pa_cons (pe_glob (v := .str "less") rfl mG_LESS ⟨_, rfl⟩) pa_nil))))) (by rfl)) pa_nil))) pa_nil)))))))))) pa_nil)))
          (pss_one (ps_ret (pe_ifExp (pt_cmpR op_isN (pv 1) pe_non (nomark _)) (pe_call G_wrong_together (hr.mono (by decide)) rfl m_wrong_together k_wrong_together b_wrong_together .nil pass0 (pa_cons (pv 0) pa_nil)) (pv 1))))), ?_⟩
    have S0 : Same H H := Same.refl H
    refine ⟨_, rfl, a, C, dx, _, _, rfl, S0 _ _ ha, O.cl, O.n_owner, oFl_owner .., _, rfl, name_small ok.owner, fun H0a s0a => ?_⟩
    have S0a := S0.trans s0a
    refine ⟨(by show 2 ≤ sizeLine; decide), fun t0 n0 => ?_⟩
    have s0b := Same.new n0 (o := .tup [.str "owner", .bl (nameV (.str o.owner))])
    have S0b := S0a.trans s0b
    refine ⟨_, rfl, a, C, dx, _, _, rfl, S0b _ _ ha, O.cl, O.n_thing, oFl_thing .., _, rfl, name_small ok.thing, fun H1a s1a => ?_⟩
    have S1a := S0b.trans s1a
    refine ⟨(by show 2 ≤ sizeLine; decide), fun t1 n1 => ?_⟩
    have s1b := Same.new n1 (o := .tup [.str "thing", .bl (nameV (.str o.thing))])
    have S1b := S1a.trans s1b
    refine ⟨_, rfl, a, C, dx, _, _, rfl, S1b _ _ ha, O.cl, O.n_side, oFl_side .., (by show 2 ≤ sizeLine; decide), fun u2 nu2 => ?_⟩
    have s2a := Same.new nu2 (o := .tup [.str "buy", .str "sell"])
    have S2a := S1b.trans s2a
    refine ⟨u2, _, rfl, .inr (SqT.of upd_same), rfl, (by decide +kernel), ?_⟩
    refine ⟨(by show 2 ≤ sizeLine; decide), fun t2 n2 => ?_⟩
    have s2b := Same.new n2 (o := .tup [.str "side", .bl ((if false = true then !inV (.str o.side) [.str "buy", .str "sell"] else inV (.str o.side) [.str "buy", .str "sell"]))])
    have S2b := S2a.trans s2b
    refine ⟨_, rfl, a, C, dx, _, _, rfl, S2b _ _ ha, O.cl, O.n_amount, oFl_amount .., _, rfl, trivial, ?_⟩
    refine ⟨(by show 2 ≤ sizeLine; decide), fun t3 n3 => ?_⟩
    have s3b := Same.new n3 (o := .tup [.str "amount", .bl (rangeV 1 1000000000 (.int o.amount))])
    have S3b := S2b.trans s3b
    refine opt_ok rfl (S3b _ _ ha) O.cl O.n_price (oFl_price ..) ok.price ?_
    refine ⟨(by show 2 ≤ sizeLine; decide), fun t4 n4 => ?_⟩
    have s4b := Same.new n4 (o := .tup [.str "price", .bl (true)])
    have S4b := S3b.trans s4b
    refine opt_ok rfl (S4b _ _ ha) O.cl O.n_shown (oFl_shown ..) (fun p e => ⟨(ok.shown p e).1, Int.le_trans (ok.shown p e).2.1 ok.amount.2⟩) ?_
    refine ⟨(by show 2 ≤ sizeLine; decide), fun t5 n5 => ?_⟩
    have s5b := Same.new n5 (o := .tup [.str "shown", .bl (true)])
    have S5b := S4b.trans s5b
    refine opt_ok rfl (S5b _ _ ha) O.cl O.n_stop (oFl_stop ..) ok.stop ?_
    refine ⟨(by show 2 ≤ sizeLine; decide), fun t6 n6 => ?_⟩
    have s6b := Same.new n6 (o := .tup [.str "stop", .bl (true)])
    have S6b := S5b.trans s6b
    refine ⟨_, rfl, a, C, dx, _, _, rfl, S6b _ _ ha, O.cl, O.n_life, oFl_life .., (by show 4 ≤ sizeLine; decide), fun u7 nu7 => ?_⟩
    have s7a := Same.new nu7 (o := .tup [.str "rest", .str "now", .str "whole", .str "only"])
    have S7a := S6b.trans s7a
    refine ⟨u7, _, rfl, .inr (SqT.of upd_same), rfl, (by decide +kernel), ?_⟩
    refine ⟨(by show 2 ≤ sizeLine; decide), fun t7 n7 => ?_⟩
    have s7b := Same.new n7 (o := .tup [.str "life", .bl ((if false = true then !inV (.str o.life) [.str "rest", .str "now", .str "whole", .str "only"] else inV (.str o.life) [.str "rest", .str "now", .str "whole", .str "only"]))])
    have S7b := S7a.trans s7b
    refine ⟨_, rfl, a, C, dx, _, _, rfl, S7b _ _ ha, O.cl, O.n_guard, oFl_guard .., (by show 4 ≤ sizeLine; decide), fun u8 nu8 => ?_⟩
    have s8a := Same.new nu8 (o := .tup [.str "old", .str "new", .str "both", .str "less"])
    have S8a := S7b.trans s8a
    refine ⟨u8, _, rfl, .inr (SqT.of upd_same), rfl, (by decide +kernel), ?_⟩
    refine ⟨(by show 2 ≤ sizeLine; decide), fun t8 n8 => ?_⟩
    have s8b := Same.new n8 (o := .tup [.str "guard", .bl ((if false = true then !inV (.str o.guard) [.str "old", .str "new", .str "both", .str "less"] else inV (.str o.guard) [.str "old", .str "new", .str "both", .str "less"]))])
    have S8b := S8a.trans s8b
    refine ⟨(by show 9 ≤ sizeLine; decide), fun l nl => ?_⟩
    have sl := Same.new nl (o := .lst [.ref t0, .ref t1, .ref t2, .ref t3, .ref t4, .ref t5, .ref t6, .ref t7, .ref t8])
    have Sl := S8b.trans sl
    have e8 := sl
    have e7 := (s8a.trans (s8b.trans e8))
    have e6 := (s7a.trans (s7b.trans e7))
    have e5 := (s6b.trans e6)
    have e4 := (s5b.trans e5)
    have e3 := (s4b.trans e4)
    have e2 := (s3b.trans e3)
    have e1 := (s2a.trans (s2b.trans e2))
    have e0 := (s1a.trans (s1b.trans e1))
    have well : firstW [("owner", nameV (.str o.owner)), ("thing", nameV (.str o.thing)), ("side", (if false = true then !inV (.str o.side) [.str "buy", .str "sell"] else inV (.str o.side) [.str "buy", .str "sell"])), ("amount", rangeV 1 1000000000 (.int o.amount)), ("price", true), ("shown", true), ("stop", true), ("life", (if false = true then !inV (.str o.life) [.str "rest", .str "now", .str "whole", .str "only"] else inV (.str o.life) [.str "rest", .str "now", .str "whole", .str "only"])), ("guard", (if false = true then !inV (.str o.guard) [.str "old", .str "new", .str "both", .str "less"] else inV (.str o.guard) [.str "old", .str "new", .str "both", .str "less"]))] = .non := by
      have go : ∀ (w : Str) (b : Bool) (r : List (Str × Bool)), b = true → firstW ((w, b) :: r) = firstW r := fun w b r e => if_pos e
      exact (go _ _ _ (nameB_of ok.owner)).trans ((go _ _ _ (nameB_of ok.thing)).trans ((go _ _ _ (bF.trans (in2 ok.side))).trans ((go _ _ _ (range_ok ok.amount)).trans ((go _ _ _ (rfl)).trans ((go _ _ _ (rfl)).trans ((go _ _ _ (rfl)).trans ((go _ _ _ (bF.trans (in_life ok.life))).trans ((go _ _ _ (bF.trans (in_guard ok.guard))).trans (rfl)))))))))
    refine ⟨l, _, [("owner", nameV (.str o.owner)), ("thing", nameV (.str o.thing)), ("side", (if false = true then !inV (.str o.side) [.str "buy", .str "sell"] else inV (.str o.side) [.str "buy", .str "sell"])), ("amount", rangeV 1 1000000000 (.int o.amount)), ("price", true), ("shown", true), ("stop", true), ("life", (if false = true then !inV (.str o.life) [.str "rest", .str "now", .str "whole", .str "only"] else inV (.str o.life) [.str "rest", .str "now", .str "whole", .str "only"])), ("guard", (if false = true then !inV (.str o.guard) [.str "old", .str "new", .str "both", .str "less"] else inV (.str o.guard) [.str "old", .str "new", .str "both", .str "less"]))], rfl, upd_same, .cons (told_new e0) (.cons (told_new e1) (.cons (told_new e2) (.cons (told_new e3) (.cons (told_new e4) (.cons (told_new e5) (.cons (told_new e6) (.cons (told_new e7) (.cons (told_new e8) (.nil))))))))), ?_⟩
    rw [well]
    refine ⟨_, rfl, rfl, _, rfl, iteT ⟨_, rfl, a, o, rfl, ⟨dx, Sl _ _ ha⟩, ok, fun H2 s2 => k H2 (Sl.trans s2)⟩⟩

/-! ### an order is made -/
def spOrder (C : Addr) : Sp := fun vs H Q _ => ∃ (x dx : Addr) (o : OV), vs = [.ref x, .str o.owner, .str o.thing, .str o.side, .int o.amount, optV o.price, optV o.shown, optV o.stop, .str o.life, .str o.guard] ∧ H x = some (.ins C dx []) ∧ o.Ok ∧
  ∀ H', OAt C H' x o → (∀ b u, b ≠ x → H b = some u → H' b = some u) → Q .non H'
abbrev s_Order_init : Stmt := inClass (topS 25) 0
theorem sc_Order_init : FnScope ["self", "owner", "thing", "side", "amount", "price", "shown", "stop", "life", "guard", "wrong"] ["self", "owner", "thing", "side", "amount", "price", "shown", "stop", "life", "guard"] (defScope s_Order_init) := ⟨rfl, rfl, rfl, by decide +kernel, rfl, by decide +kernel, by decide +kernel⟩
theorem ok_order_init {f C : Addr} {fd : FuncData} (F : FunD K "__init__" "Order.__init__" (defArgs s_Order_init) (defBody s_Order_init) (defScope s_Order_init) [] [("price", .non)] f fd) (O : OTxt K mg C) (c_part : Cal P w K mg base 3 "wrong_part" ["order"] (spWell C)) :
    FnOk P w K mg base CX0 4 f fd ["self", "owner", "thing", "side", "amount", "price", "shown", "stop", "life", "guard"] (spOrder C) := by
  refine F.ok sc_Order_init (fun vs H Q E h => ?_) (fun cdv A outer s H vs Q E hr h => ?_)
  · obtain ⟨x, dx, o, rfl, _⟩ := h
    rfl
  · obtain ⟨x, dx, o, rfl, hx, ok, k⟩ := h
    obtain ⟨f_wrong_part, fd_wrong_part, G_wrong_part, m_wrong_part, k_wrong_part, b_wrong_part⟩ := c_part
    refine ⟨_, (pss_cons (ps_fld (pv 0) (pv 1) rfl)
          (pss_cons (ps_fld (pv 0) (pv 2) rfl)
          (pss_cons (ps_fld (pv 0) (pv 3) rfl)
          (pss_cons (ps_fld (pv 0) (pv 4) rfl)
          (pss_cons (ps_fld (pv 0) (pv 5) rfl)
          (pss_cons (ps_fld (pv 0) (pv 6) rfl)
          (pss_cons (ps_fld (pv 0) (pv 7) rfl)
          (pss_cons (ps_fld (pv 0) (pv 8) rfl)
          (C8.pss_cut (ps_fld (pv 0) (pv 9) rfl)
          (pss_cons (ps_set (i := 10) sc_Order_init.nd rfl (Or.inl rfl) (pe_call G_wrong_part (hr.mono (by decide)) rfl m_wrong_part k_wrong_part b_wrong_part .nil pass0 (pa_cons (pv 0) pa_nil)))
          (pss_one (ps_if (pt_cmpR op_notN (pv 10) pe_non (nomark _)) (pss_one ps_never) pss_nil)))))))))))), ?_⟩
    refine ⟨_, rfl, _, rfl, x, C, dx, _, rfl, hx, O.cl, O.n_owner, few (fl0) (by decide), ?_⟩
    refine ⟨_, rfl, _, rfl, x, C, dx, _, rfl, upd_same, O.cl, O.n_thing, few (fl (fl0)) (by decide), ?_⟩
    refine ⟨_, rfl, _, rfl, x, C, dx, _, rfl, upd_same, O.cl, O.n_side, few (fl (fl (fl0))) (by decide), ?_⟩
    refine ⟨_, rfl, _, rfl, x, C, dx, _, rfl, upd_same, O.cl, O.n_amount, few (fl (fl (fl (fl0)))) (by decide), ?_⟩
    refine ⟨_, rfl, _, rfl, x, C, dx, _, rfl, upd_same, O.cl, O.n_price, few (fl (fl (fl (fl (fl0))))) (by decide), ?_⟩
    refine ⟨_, rfl, _, rfl, x, C, dx, _, rfl, upd_same, O.cl, O.n_shown, few (fl (fl (fl (fl (fl (fl0)))))) (by decide), ?_⟩
    refine ⟨_, rfl, _, rfl, x, C, dx, _, rfl, upd_same, O.cl, O.n_stop, few (fl (fl (fl (fl (fl (fl (fl0))))))) (by decide), ?_⟩
    refine ⟨_, rfl, _, rfl, x, C, dx, _, rfl, upd_same, O.cl, O.n_life, few (fl (fl (fl (fl (fl (fl (fl (fl0)))))))) (by decide), ?_⟩
    refine ⟨fun σ h => σ = [some (.ref x), some (.str o.owner), some (.str o.thing), some (.str o.side), some (.int o.amount), some (optV o.price), some (optV o.shown), some (optV o.stop), some (.str o.life), some (.str o.guard), none] ∧ h x = some (.ins C dx (oF o)) ∧ ∀ b u, b ≠ x → H b = some u → h b = some u, ?_, ?_⟩
    · refine ⟨_, rfl, _, rfl, x, C, dx, _, rfl, upd_same, O.cl, O.n_guard, few (fl (fl (fl (fl (fl (fl (fl (fl (fl0))))))))) (by decide), rfl, ?_, fun b u nb hb => ?_⟩
      · rw [upd_same, oFl_put]
        rfl
      · rw [upd_ne nb, upd_ne nb, upd_ne nb, upd_ne nb, upd_ne nb, upd_ne nb, upd_ne nb, upd_ne nb, upd_ne nb]
        exact hb
    rintro σ h ⟨rfl, h1, h2⟩
    refine ⟨_, rfl, x, o, rfl, ⟨dx, h1⟩, ok, fun H2 s2 => ?_⟩
    refine ⟨_, rfl, rfl, _, rfl, iteNS rfl ?_⟩
    exact k H2 ⟨dx, s2 _ _ h1⟩ fun b u nb hb => s2 _ _ (h2 b u nb hb)
/-! ### its text -/
def numS (i : Int) : Str := Str.ofString (toString i)
theorem num_len {i : Int} (h0 : 0 ≤ i) (h1 : i ≤ 1000000000) : (numS i).length ≤ 10 := PyProof.Rows.toString_length_le h0 (by decide) (Int.lt_of_le_of_lt h1 (by decide))
theorem num_log {i : Int} (h0 : 0 ≤ i) (h1 : i ≤ 1000000000) : i.natAbs.log2 < 1920 := PySem.Flt.log2_lt_of (by decide) (Nat.lt_of_le_of_lt (show i.natAbs ≤ 1000000000 by omega) (by decide +kernel))
def firstWord (o : OV) : Str := Str.empty ++ o.side ++ " " ++ numS o.amount ++ " " ++ o.thing
def optW (pre : Str) : Option Int → List Str
  | none => []
  | some i => [Str.empty ++ pre ++ numS i]
def txtW (pre usual : Str) (s : Str) : List Str := if s = usual then [] else [Str.empty ++ pre ++ s]
def W1 (o : OV) : List Str := [firstWord o]
def W2 (o : OV) : List Str := W1 o ++ optW "at " o.price
def W3 (o : OV) : List Str := W2 o ++ optW "show " o.shown
def W4 (o : OV) : List Str := W3 o ++ optW "stop " o.stop
def W5 (o : OV) : List Str := W4 o ++ txtW "life " "rest" o.life
def W6 (o : OV) : List Str := W5 o ++ txtW "guard " "old" o.guard
def W7 (o : OV) : List Str := W6 o ++ [Str.empty ++ "by " ++ o.owner]
def ordText (o : OV) : Str := Txt.join " " (W7 o)
theorem len_blank : (" " : Str).length = 1 := by decide +kernel
theorem len_at : ("at " : Str).length = 3 := by decide +kernel
theorem len_show : ("show " : Str).length = 5 := by decide +kernel
theorem len_stop : ("stop " : Str).length = 5 := by decide +kernel
theorem len_life : ("life " : Str).length = 5 := by decide +kernel
theorem len_guard : ("guard " : Str).length = 6 := by decide +kernel
theorem len_by : ("by " : Str).length = 3 := by decide +kernel
theorem len_empty : Str.empty.length = 0 := rfl
theorem side_len {o : OV} (ok : o.Ok) : o.side.length ≤ 4 := by
  rcases ok.side with h | h <;> (rw [h]; decide +kernel)
theorem life_len {o : OV} (ok : o.Ok) : o.life.length ≤ 5 := by
  rcases ok.life with h | h | h | h <;> (rw [h]; decide +kernel)
theorem guard_len {o : OV} (ok : o.Ok) : o.guard.length ≤ 4 := by
  rcases ok.guard with h | h | h | h <;> (rw [h]; decide +kernel)
/-- few short words -/
def Short (n : Nat) (ws : List Str) : Prop := ws.length ≤ n ∧ ∀ s ∈ ws, s.length ≤ 100
theorem Short.add {n : Nat} {ws : List Str} {s : Str} (h : Short n ws) (hs : s.length ≤ 100) : Short (n + 1) (ws ++ [s]) := by
  refine ⟨by rw [List.length_append]; exact Nat.add_le_add_right h.1 1, fun t ht => ?_⟩
  rcases List.mem_append.mp ht with ht | ht
  · exact h.2 t ht
  · rw [List.mem_singleton.mp ht]
    exact hs
theorem Short.none {n : Nat} {ws : List Str} (h : Short n ws) : Short (n + 1) (ws ++ []) := by
  rw [List.append_nil]
  exact ⟨Nat.le_succ_of_le h.1, h.2⟩
theorem sum_short : ∀ ws : List Str, (∀ s ∈ ws, s.length ≤ 100) → (ws.map (·.length)).sum ≤ 100 * ws.length
  | [], _ => Nat.le_refl _
  | w :: ws, h => by
    have h1 := h w List.mem_cons_self
    have h2 := sum_short ws fun s hs => h s (List.mem_cons_of_mem _ hs)
    show w.length + (ws.map (·.length)).sum ≤ 100 * (ws.length + 1)
    omega
theorem snoc_at {H : Hp} {l : Addr} {ws : List Str} {s : Str} : (upd H l (.lst (ws.map V.str ++ [.str s]))) l = some (.lst ((ws ++ [s]).map V.str)) := by
  rw [upd_same, List.map_append]
  rfl
def spText (C : Addr) : Sp := fun vs H Q _ => ∃ (a : Addr) (o : OV), vs = [.ref a] ∧ OAt C H a o ∧ o.Ok ∧ ∀ H', Same H H' → Q (.str (ordText o)) H'
abbrev s_Order_str : Stmt := inClass (topS 25) 2
theorem sc_Order_str : FnScope ["self", "words"] ["self"] (defScope s_Order_str) := ⟨rfl, rfl, rfl, by decide +kernel, rfl, by decide +kernel, by decide +kernel⟩
theorem ok_order_str {f C : Addr} {fd : FuncData} (F : Fun K "__str__" "Order.__str__" s_Order_str f fd) (T : Txt mg) (O : OTxt K mg C) : FnOk P w K mg base CX0 1 f fd ["self"] (spText C) := by
  refine F.ok sc_Order_str (fun vs H Q E h => ?_) (fun cdv A outer s H vs Q E hr h => ?_)
  · obtain ⟨a, o, rfl, _⟩ := h
    rfl
  · obtain ⟨a, o, rfl, ⟨dx, ha⟩, ok, k⟩ := h
    obtain ⟨_, mG_OLD⟩ := T.mg_OLD
    obtain ⟨_, mG_REST⟩ := T.mg_REST
    refine ⟨_, (C8.pss_cut (ps_set (i := 1) sc_Order_str.nd rfl (Or.inl rfl) (pe_lst (pa_cons (pe_joined (PJ.cons (pe_fmt (pe_fld (pv 0) rfl)) (PJ.cons pe_str (PJ.cons (pe_fmt (pe_fld (pv 0) rfl)) (PJ.cons pe_str (PJ.cons (pe_fmt (pe_fld (pv 0) rfl)) PJ.nil)))))) pa_nil)))
          (C8.pss_cut (ps_if (pt_cmpR op_notN (pe_fld (pv 0) rfl) pe_non (nomark _)) (pss_one (ps_expr (pe_bm PySem.F.plainAttrs_list PySem.F.slot_list_append PySem.F.type_list_append mt_append (pv 1) (pa_cons (pe_joined (PJ.cons pe_str (PJ.cons (pe_fmt (pe_fld (pv 0) rfl)) PJ.nil))) pa_nil)))) pss_nil)
          (C8.pss_cut (ps_if (pt_cmpR op_notN (pe_fld (pv 0) rfl) pe_non (nomark _)) (pss_one (ps_expr (pe_bm PySem.F.plainAttrs_list PySem.F.slot_list_append PySem.F.type_list_append mt_append (pv 1) (pa_cons (pe_joined (PJ.cons pe_str (PJ.cons (pe_fmt (pe_fld (pv 0) rfl)) PJ.nil))) pa_nil)))) pss_nil)
          (C8.pss_cut (ps_if (pt_cmpR op_notN (pe_fld (pv 0) rfl) pe_non (nomark _)) (pss_one (ps_expr (pe_bm PySem.F.plainAttrs_list PySem.F.slot_list_append PySem.F.type_list_append mt_append (pv 1) (pa_cons (pe_joined (PJ.cons pe_str (PJ.cons (pe_fmt (pe_fld (pv 0) rfl)) PJ.nil))) pa_nil)))) pss_nil)
          (C8.pss_cut (ps_if (pt_cmpR op_ne (pe_fld (pv 0) rfl) (pe_glob (v := .str "rest") rfl mG_REST ⟨_, rfl⟩) (nomark _)) (pss_one (ps_expr (pe_bm PySem.F.plainAttrs_list PySem.F.slot_list_append PySem.F.type_list_append mt_append (pv 1) (pa_cons (pe_joined (PJ.cons pe_str (PJ.cons (pe_fmt (pe_fld (pv 0) rfl)) PJ.nil))) pa_nil)))) pss_nil)
          (C8.pss_cut (ps_if (pt_cmpR op_ne (pe_fld (pv 0) rfl) (pe_glob (v := .str "old") rfl mG_OLD ⟨_, rfl⟩) (nomark _)) (pss_one (ps_expr (pe_bm PySem.F.plainAttrs_list PySem.F.slot_list_append PySem.F.type_list_append mt_append (pv 1) (pa_cons (pe_joined (PJ.cons pe_str (PJ.cons (pe_fmt (pe_fld (pv 0) rfl)) PJ.nil))) pa_nil)))) pss_nil)
          (C8.pss_cut (ps_expr (pe_bm PySem.F.plainAttrs_list PySem.F.slot_list_append PySem.F.type_list_append mt_append (pv 1) (pa_cons (pe_joined (PJ.cons pe_str (PJ.cons (pe_fmt (pe_fld (pv 0) rfl)) PJ.nil))) pa_nil)))
          (pss_one (ps_ret (pe_m1 PySem.F.slot_str_join PySem.F.type_str_join mt_join pe_str (pv 1))))))))))), ?_⟩
    have z1 := side_len ok
    have z2 := ok.thing.2.1
    have z3 := ok.owner.2.1
    have z4 := num_len (Int.le_trans (by decide) ok.amount.1) ok.amount.2
    have z5 := life_len ok
    have z6 := guard_len ok
    have hb := len_blank
    have he := len_empty
    have small : ∀ n : Nat, n ≤ 1000 → n ≤ sizeLine := fun n h => Nat.le_trans h (by decide)
    refine ⟨fun σ h => ∃ l, σ = [some (.ref a), some (.ref l)] ∧ H l = none ∧ Same H h ∧ h l = some (.lst ((W1 o).map V.str)), ?_, ?_⟩
    · refine ⟨_, rfl, a, C, dx, _, _, rfl, ha, O.cl, O.n_side, oFl_side .., .inl ⟨_, rfl, small _ (by omega), _, rfl, small _ (by rw [Str.length_append]; omega), ?_⟩⟩
      refine ⟨_, rfl, small _ (by simp only [Str.length_append]; omega), ?_⟩
      refine ⟨_, rfl, a, C, dx, _, _, rfl, ha, O.cl, O.n_amount, oFl_amount .., .inr ⟨_, rfl, num_log (Int.le_trans (by decide) ok.amount.1) ok.amount.2, _, rfl, small _ (by simp only [Str.length_append]; unfold numS at z4; omega), ?_⟩⟩
      refine ⟨_, rfl, small _ (by simp only [Str.length_append]; unfold numS at z4; omega), ?_⟩
      refine ⟨_, rfl, a, C, dx, _, _, rfl, ha, O.cl, O.n_thing, oFl_thing .., .inl ⟨_, rfl, small _ (by omega), _, rfl, small _ (by simp only [Str.length_append]; unfold numS at z4; omega), ?_⟩⟩
      refine ⟨(by show 1 ≤ sizeLine; decide), fun l nl => ?_⟩
      exact ⟨l, rfl, nl, Same.new nl, upd_same⟩
    rintro σ h ⟨l, rfl, nl, s1, hl⟩
    have sh : Short 1 (W1 o) := ⟨Nat.le_refl _, fun s hs => by
      rw [List.mem_singleton.mp hs]
      unfold firstWord
      simp only [Str.length_append]
      omega⟩
    refine ⟨fun σ h => σ = [some (.ref a), some (.ref l)] ∧ Same H h ∧ h l = some (.lst ((W2 o).map V.str)) ∧ Short 2 (W2 o), ?_, ?_⟩
    · have ha1 := s1 _ _ ha
      refine ⟨_, rfl, a, C, dx, _, _, rfl, ha1, O.cl, O.n_price, oFl_price .., rfl, _, rfl, ?_⟩
      unfold W2
      cases hi : o.price with
      | none =>
        refine iteNS rfl ⟨rfl, s1, ?_, sh.none⟩
        show h l = some (.lst ((W1 o ++ []).map V.str))
        rw [List.append_nil]
        exact hl
      | some i =>
        have b := (ok.price i hi)
        have b2 : i ≤ 1000000000 := by have := b.2; omega
        have zi := num_len (i := i) (by have := b.1; omega) b2
        have lp := len_at
        have fv : (oF o).lookup ("price" : Str) = some (.int i) := by
          have z := oFl_price o.owner o.thing o.side (.int o.amount) (optV o.price) (optV o.shown) (optV o.stop) o.life o.guard
          rw [hi] at z
          unfold oF
          rw [hi]
          exact z
        refine iteT ?_
        refine ⟨_, rfl, .inl ⟨rfl, _, SqL.of hl⟩, _, rfl, small _ (by rw [Str.length_append]; omega), ?_⟩
        refine ⟨_, rfl, a, C, dx, _, _, rfl, ha1, O.cl, O.n_price, fv, .inr ⟨_, rfl, num_log (by have := b.1; omega) b2, _, rfl, small _ (by simp only [Str.length_append]; unfold numS at zi; omega), ?_⟩⟩
        refine ⟨l, _, _, rfl, rfl, hl, by rw [List.length_map]; exact Nat.lt_of_le_of_lt sh.1 (by decide), ?_⟩
        refine ⟨rfl, fun b o e => ?_, snoc_at, sh.add (by simp only [Str.length_append]; omega)⟩
        rw [upd_ne (ne_of_none e nl)]
        exact s1 _ _ e
    clear hl sh s1
    rintro σ h ⟨rfl, s1, hl, sh⟩
    refine ⟨fun σ h => σ = [some (.ref a), some (.ref l)] ∧ Same H h ∧ h l = some (.lst ((W3 o).map V.str)) ∧ Short 3 (W3 o), ?_, ?_⟩
    · have ha1 := s1 _ _ ha
      refine ⟨_, rfl, a, C, dx, _, _, rfl, ha1, O.cl, O.n_shown, oFl_shown .., rfl, _, rfl, ?_⟩
      unfold W3
      cases hi : o.shown with
      | none =>
        refine iteNS rfl ⟨rfl, s1, ?_, sh.none⟩
        show h l = some (.lst ((W2 o ++ []).map V.str))
        rw [List.append_nil]
        exact hl
      | some i =>
        have b := (⟨(ok.shown i hi).1, Int.le_trans (ok.shown i hi).2.1 ok.amount.2⟩ : 1 ≤ i ∧ i ≤ 1000000000)
        have b2 : i ≤ 1000000000 := by have := b.2; omega
        have zi := num_len (i := i) (by have := b.1; omega) b2
        have lp := len_show
        have fv : (oF o).lookup ("shown" : Str) = some (.int i) := by
          have z := oFl_shown o.owner o.thing o.side (.int o.amount) (optV o.price) (optV o.shown) (optV o.stop) o.life o.guard
          rw [hi] at z
          unfold oF
          rw [hi]
          exact z
        refine iteT ?_
        refine ⟨_, rfl, .inl ⟨rfl, _, SqL.of hl⟩, _, rfl, small _ (by rw [Str.length_append]; omega), ?_⟩
        refine ⟨_, rfl, a, C, dx, _, _, rfl, ha1, O.cl, O.n_shown, fv, .inr ⟨_, rfl, num_log (by have := b.1; omega) b2, _, rfl, small _ (by simp only [Str.length_append]; unfold numS at zi; omega), ?_⟩⟩
        refine ⟨l, _, _, rfl, rfl, hl, by rw [List.length_map]; exact Nat.lt_of_le_of_lt sh.1 (by decide), ?_⟩
        refine ⟨rfl, fun b o e => ?_, snoc_at, sh.add (by simp only [Str.length_append]; omega)⟩
        rw [upd_ne (ne_of_none e nl)]
        exact s1 _ _ e
    clear hl sh s1
    rintro σ h ⟨rfl, s1, hl, sh⟩
    refine ⟨fun σ h => σ = [some (.ref a), some (.ref l)] ∧ Same H h ∧ h l = some (.lst ((W4 o).map V.str)) ∧ Short 4 (W4 o), ?_, ?_⟩
    · have ha1 := s1 _ _ ha
      refine ⟨_, rfl, a, C, dx, _, _, rfl, ha1, O.cl, O.n_stop, oFl_stop .., rfl, _, rfl, ?_⟩
      unfold W4
      cases hi : o.stop with
      | none =>
        refine iteNS rfl ⟨rfl, s1, ?_, sh.none⟩
        show h l = some (.lst ((W3 o ++ []).map V.str))
        rw [List.append_nil]
        exact hl
      | some i =>
        have b := (ok.stop i hi)
        have b2 : i ≤ 1000000000 := by have := b.2; omega
        have zi := num_len (i := i) (by have := b.1; omega) b2
        have lp := len_stop
        have fv : (oF o).lookup ("stop" : Str) = some (.int i) := by
          have z := oFl_stop o.owner o.thing o.side (.int o.amount) (optV o.price) (optV o.shown) (optV o.stop) o.life o.guard
          rw [hi] at z
          unfold oF
          rw [hi]
          exact z
        refine iteT ?_
        refine ⟨_, rfl, .inl ⟨rfl, _, SqL.of hl⟩, _, rfl, small _ (by rw [Str.length_append]; omega), ?_⟩
        refine ⟨_, rfl, a, C, dx, _, _, rfl, ha1, O.cl, O.n_stop, fv, .inr ⟨_, rfl, num_log (by have := b.1; omega) b2, _, rfl, small _ (by simp only [Str.length_append]; unfold numS at zi; omega), ?_⟩⟩
        refine ⟨l, _, _, rfl, rfl, hl, by rw [List.length_map]; exact Nat.lt_of_le_of_lt sh.1 (by decide), ?_⟩
        refine ⟨rfl, fun b o e => ?_, snoc_at, sh.add (by simp only [Str.length_append]; omega)⟩
        rw [upd_ne (ne_of_none e nl)]
        exact s1 _ _ e
    clear hl sh s1
    rintro σ h ⟨rfl, s1, hl, sh⟩
    refine ⟨fun σ h => σ = [some (.ref a), some (.ref l)] ∧ Same H h ∧ h l = some (.lst ((W5 o).map V.str)) ∧ Short 5 (W5 o), ?_, ?_⟩
    · have ha1 := s1 _ _ ha
      refine ⟨_, rfl, a, C, dx, _, _, rfl, ha1, O.cl, O.n_life, oFl_life .., rfl, _, rfl, ?_⟩
      unfold W5
      unfold txtW
      refine ite2 (fun c => ?_) (fun c => ?_)
      · have ne : ¬ o.life = "rest" := fun e => by
          rw [e, decide_eq_true rfl] at c
          cases c
        rw [if_neg ne]
        have lp := len_life
        refine ⟨_, rfl, .inl ⟨rfl, _, SqL.of hl⟩, _, rfl, small _ (by rw [Str.length_append]; omega), ?_⟩
        refine ⟨_, rfl, a, C, dx, _, _, rfl, ha1, O.cl, O.n_life, oFl_life .., .inl ⟨_, rfl, small _ (by omega), _, rfl, small _ (by simp only [Str.length_append]; omega), ?_⟩⟩
        refine ⟨l, _, _, rfl, rfl, hl, by rw [List.length_map]; exact Nat.lt_of_le_of_lt sh.1 (by decide), ?_⟩
        refine ⟨rfl, fun b o e => ?_, snoc_at, sh.add (by simp only [Str.length_append]; omega)⟩
        rw [upd_ne (ne_of_none e nl)]
        exact s1 _ _ e
      · have eq : o.life = "rest" := by
          by_cases e : o.life = "rest"
          · exact e
          · exact absurd (by rw [decide_eq_false (fun q => e (V.str.inj q))]; rfl) c
        rw [if_pos eq]
        refine ⟨rfl, s1, ?_, sh.none⟩
        show h l = some (.lst ((W4 o ++ []).map V.str))
        rw [List.append_nil]
        exact hl
    clear hl sh s1
    rintro σ h ⟨rfl, s1, hl, sh⟩
    refine ⟨fun σ h => σ = [some (.ref a), some (.ref l)] ∧ Same H h ∧ h l = some (.lst ((W6 o).map V.str)) ∧ Short 6 (W6 o), ?_, ?_⟩
    · have ha1 := s1 _ _ ha
      refine ⟨_, rfl, a, C, dx, _, _, rfl, ha1, O.cl, O.n_guard, oFl_guard .., rfl, _, rfl, ?_⟩
      unfold W6
      unfold txtW
      refine ite2 (fun c => ?_) (fun c => ?_)
      · have ne : ¬ o.guard = "old" := fun e => by
          rw [e, decide_eq_true rfl] at c
          cases c
        rw [if_neg ne]
        have lp := len_guard
        refine ⟨_, rfl, .inl ⟨rfl, _, SqL.of hl⟩, _, rfl, small _ (by rw [Str.length_append]; omega), ?_⟩
        refine ⟨_, rfl, a, C, dx, _, _, rfl, ha1, O.cl, O.n_guard, oFl_guard .., .inl ⟨_, rfl, small _ (by omega), _, rfl, small _ (by simp only [Str.length_append]; omega), ?_⟩⟩
        refine ⟨l, _, _, rfl, rfl, hl, by rw [List.length_map]; exact Nat.lt_of_le_of_lt sh.1 (by decide), ?_⟩
        refine ⟨rfl, fun b o e => ?_, snoc_at, sh.add (by simp only [Str.length_append]; omega)⟩
        rw [upd_ne (ne_of_none e nl)]
        exact s1 _ _ e
      · have eq : o.guard = "old" := by
          by_cases e : o.guard = "old"
          · exact e
          · exact absurd (by rw [decide_eq_false (fun q => e (V.str.inj q))]; rfl) c
        rw [if_pos eq]
        refine ⟨rfl, s1, ?_, sh.none⟩
        show h l = some (.lst ((W5 o ++ []).map V.str))
        rw [List.append_nil]
        exact hl
    clear hl sh s1
    rintro σ h ⟨rfl, s1, hl, sh⟩
    refine ⟨fun σ h => σ = [some (.ref a), some (.ref l)] ∧ Same H h ∧ h l = some (.lst ((W7 o).map V.str)) ∧ Short 7 (W7 o), ?_, ?_⟩
    · have ha1 := s1 _ _ ha
      have lp := len_by
      refine ⟨_, rfl, .inl ⟨rfl, _, SqL.of hl⟩, _, rfl, small _ (by rw [Str.length_append]; omega), ?_⟩
      refine ⟨_, rfl, a, C, dx, _, _, rfl, ha1, O.cl, O.n_owner, oFl_owner .., .inl ⟨_, rfl, small _ (by omega), _, rfl, small _ (by simp only [Str.length_append]; omega), ?_⟩⟩
      refine ⟨l, _, _, rfl, rfl, hl, by rw [List.length_map]; exact Nat.lt_of_le_of_lt sh.1 (by decide), ?_⟩
      refine ⟨rfl, fun b o e => ?_, snoc_at, sh.add (by simp only [Str.length_append]; omega)⟩
      rw [upd_ne (ne_of_none e nl)]
      exact s1 _ _ e
    clear hl sh s1
    rintro σ h ⟨rfl, s1, hl, sh⟩
    refine ⟨⟨_, rfl⟩, _, rfl, _, l, W7 o, rfl, rfl, .inl (SqL.of hl), ?_, k h s1⟩
    have q1 := sum_short _ sh.2
    have q2 := sh.1
    rw [hb]
    omega

/-! ### the drawn parts -/
structure Bs (p q1 : Addr) (a b : Str) (H h : Hp) (m : Int) : Prop where
  kp : Keep p H h
  nm : h q1 = some (.lst [.str a, .str b])
  pu : Pu h p m
theorem Pu.ne {h : Hp} {p q : Addr} {m : Int} (u : Pu h p m) (n : h q = none) : q ≠ p := fun e => by
  obtain ⟨_, _, _, e2, _⟩ := u
  rw [e, e2] at n
  cases n
theorem Bs.coin {p q1 : Addr} {a b : Str} {H h h' : Hp} {m m' : Int} (B : Bs p q1 a b H h m) (k : Keep p h h') (u : Pu h' p m') : Bs p q1 a b H h' m' := by
  refine ⟨B.kp.trans k, k _ _ (fun e => ?_) B.nm, u⟩
  obtain ⟨_, _, _, e2, _⟩ := B.pu
  have e3 := B.nm
  rw [e, e2] at e3
  cases e3
theorem Bs.same {p q1 : Addr} {a b : Str} {H h h' : Hp} {m : Int} (B : Bs p q1 a b H h m) (s : Same h h') : Bs p q1 a b H h' m := ⟨B.kp.trans (Keep.same s), s _ _ B.nm, B.pu.same s⟩
theorem Bs.new {p q1 : Addr} {a b : Str} {H h : Hp} {m : Int} {u : Addr} {o : HO} (B : Bs p q1 a b H h m) (n : h u = none) : Bs p q1 a b H (upd h u o) m := B.same (Same.new n)
theorem Bs.mono {p q1 : Addr} {a b : Str} {H h : Hp} {m m' : Int} (B : Bs p q1 a b H h m) (e : m ≤ m') : Bs p q1 a b H h m' := ⟨B.kp, B.nm, B.pu.mono e⟩
theorem coin_new {h h' : Hp} {p u : Addr} {m : Int} {o : HO} (pu : Pu h p m) (n : h u = none) (k : Keep p (upd h u o) h') : h' u = some o := k _ _ (pu.ne n) upd_same
theorem at2 {x y : V} {r : Int} (h0 : 0 ≤ r) (h : r < 2) : (r = 0 ∧ atI [x, y] r = some x) ∨ (r = 1 ∧ atI [x, y] r = some y) := by
  have : r = 0 ∨ r = 1 := by omega
  rcases this with e | e <;> subst e
  · exact .inl ⟨rfl, rfl⟩
  · exact .inr ⟨rfl, rfl⟩
theorem at3 {x y z : V} {r : Int} (h0 : 0 ≤ r) (h : r < 3) : atI [x, y, z] r = some x ∨ atI [x, y, z] r = some y ∨ atI [x, y, z] r = some z := by
  have : r = 0 ∨ r = 1 ∨ r = 2 := by omega
  rcases this with e | e | e <;> subst e
  · exact .inl rfl
  · exact .inr (.inl rfl)
  · exact .inr (.inr rfl)
theorem at4 {x y z t : V} {r : Int} (h0 : 0 ≤ r) (h : r < 4) : atI [x, y, z, t] r = some x ∨ atI [x, y, z, t] r = some y ∨ atI [x, y, z, t] r = some z ∨ atI [x, y, z, t] r = some t := by
  have : r = 0 ∨ r = 1 ∨ r = 2 ∨ r = 3 := by omega
  rcases this with e | e | e | e <;> subst e
  · exact .inl rfl
  · exact .inr (.inl rfl)
  · exact .inr (.inr (.inl rfl))
  · exact .inr (.inr (.inr rfl))
def partsL (o : OV) : List V := [.str o.owner, .str o.thing, .str o.side, .int o.amount, optV o.price, optV o.shown, optV o.stop, .str o.life, .str o.guard]
def spParts : Sp := fun vs H Q _ => ∃ (p : Addr) (n : Int), vs = [.ref p] ∧ Pu H p n ∧ n + 100 < 2 ^ 30 ∧
  ∀ (q : Addr) (o : OV) (H' : Hp), H q = none → o.Ok → H' q = some (.lst (partsL o)) → Pu H' p (n + 40) → Keep p H H' → Q (.ref q) H'
theorem nw : inV (.str "now") [.str "now", .str "whole"] = true := by decide +kernel
theorem ww : inV (.str "whole") [.str "now", .str "whole"] = true := by decide +kernel
theorem rw_ : inV (.str "rest") [.str "now", .str "whole"] = false := by decide +kernel
theorem ow : inV (.str "only") [.str "now", .str "whole"] = false := by decide +kernel
abbrev s_law_parts : Stmt := topS 33
theorem sc_law_parts : FnScope ["purse", "names", "many", "first", "last", "part", "way", "who"] ["purse"] (defScope s_law_parts) := ⟨rfl, rfl, rfl, by decide +kernel, rfl, by decide +kernel, by decide +kernel⟩
theorem ok_parts {f : Addr} {fd : FuncData} (F : Fun K "_law_parts" "_law_parts" s_law_parts f fd) (c_coin : Cal P w K mg base 1 "_law_coin" ["purse", "many"] spCoin) (c_names : Cal P w K mg base 2 "_law_names" ["purse", "many"] spNames) : FnOk P w K mg base CX0 3 f fd ["purse"] spParts := by
  refine F.ok sc_law_parts (fun vs H Q E h => ?_) (fun cdv A outer s H vs Q E hr h => ?_)
  · obtain ⟨p, n, rfl, _⟩ := h
    rfl
  · obtain ⟨p, n, rfl, u, hn, k⟩ := h
    obtain ⟨f_coin, fd_coin, G_coin, m_coin, k_coin, b_coin⟩ := c_coin
    obtain ⟨f_names, fd_names, G_names, m_names, k_names, b_names⟩ := c_names
    refine ⟨_, (C8.pss_cut (ps_set (i := 1) sc_law_parts.nd rfl (Or.inl rfl) (pe_call G_names (hr.mono (by decide)) rfl m_names k_names b_names .nil pass0 (pa_cons (pv 0) (pa_cons pe_int pa_nil))))
          (C8.pss_cut (ps_set (i := 2) sc_law_parts.nd rfl (Or.inl rfl) (pe_op op_add pe_int (pe_call G_coin (hr.mono (by decide)) rfl m_coin k_coin b_coin .nil pass0 (pa_cons (pv 0) (pa_cons (pe_ix ix_list (pe_lst (pa_cons pe_int (pa_cons pe_int (pa_cons (pe_op op_pow pe_int pe_int) pa_nil)))) (pe_call G_coin (hr.mono (by decide)) rfl m_coin k_coin b_coin .nil pass0 (pa_cons (pv 0) (pa_cons pe_int pa_nil))) (fun _ _ => rfl)) pa_nil)))))
          (C8.pss_cut (ps_set (i := 3) sc_law_parts.nd rfl (Or.inl rfl) (pe_op op_add pe_int (pe_call G_coin (hr.mono (by decide)) rfl m_coin k_coin b_coin .nil pass0 (pa_cons (pv 0) (pa_cons (pe_ix ix_list (pe_lst (pa_cons pe_int (pa_cons (pe_op op_pow pe_int pe_int) pa_nil))) (pe_call G_coin (hr.mono (by decide)) rfl m_coin k_coin b_coin .nil pass0 (pa_cons (pv 0) (pa_cons pe_int pa_nil))) (fun _ _ => rfl)) pa_nil)))))
          (C8.pss_cut (ps_set (i := 4) sc_law_parts.nd rfl (Or.inl rfl) (pe_ix ix_list (pe_lst (pa_cons pe_non (pa_cons (pe_op op_add pe_int (pe_call G_coin (hr.mono (by decide)) rfl m_coin k_coin b_coin .nil pass0 (pa_cons (pv 0) (pa_cons (pe_op op_pow pe_int pe_int) pa_nil)))) pa_nil))) (pe_call G_coin (hr.mono (by decide)) rfl m_coin k_coin b_coin .nil pass0 (pa_cons (pv 0) (pa_cons pe_int pa_nil))) (fun _ _ => rfl)))
          (C8.pss_cut (ps_set (i := 5) sc_law_parts.nd rfl (Or.inl rfl) (pe_ix ix_list (pe_lst (pa_cons pe_non (pa_cons (pv 2) (pa_cons (pe_op op_fdivW (pe_op op_add (pv 2) pe_int) pe_int) (pa_cons (pe_op op_fdivW (pe_op op_add (pv 2) pe_int) pe_int) pa_nil))))) (pe_call G_coin (hr.mono (by decide)) rfl m_coin k_coin b_coin .nil pass0 (pa_cons (pv 0) (pa_cons pe_int pa_nil))) (fun _ _ => rfl)))
          (C8.pss_cut (ps_set (i := 6) sc_law_parts.nd rfl (Or.inl rfl) (pe_ix ix_list (pe_lst (pa_cons pe_str (pa_cons pe_str (pa_cons pe_str (pa_cons pe_str pa_nil))))) (pe_call G_coin (hr.mono (by decide)) rfl m_coin k_coin b_coin .nil pass0 (pa_cons (pv 0) (pa_cons pe_int pa_nil))) (fun _ _ => rfl)))
          (C8.pss_cut (ps_if (pt_cmpR op_in_seq (pv 6) (pe_lst (pa_cons pe_str (pa_cons pe_str pa_nil))) (by rfl)) (pss_cons (ps_set (i := 5) sc_law_parts.nd rfl (Or.inl rfl) pe_non)
            (pss_one (ps_set (i := 3) sc_law_parts.nd rfl (Or.inl rfl) (pe_ix ix_list (pe_lst (pa_cons pe_non (pa_cons (pv 3) pa_nil))) (pe_call G_coin (hr.mono (by decide)) rfl m_coin k_coin b_coin .nil pass0 (pa_cons (pv 0) (pa_cons pe_int pa_nil))) (fun _ _ => rfl))))) pss_nil)
          (C8.pss_cut (ps_set (i := 7) sc_law_parts.nd rfl (Or.inl rfl) (pe_ix ix_list (pe_lst (pa_cons pe_str (pa_cons pe_str (pa_cons pe_str (pa_cons pe_str pa_nil))))) (pe_call G_coin (hr.mono (by decide)) rfl m_coin k_coin b_coin .nil pass0 (pa_cons (pv 0) (pa_cons pe_int pa_nil))) (fun _ _ => rfl)))
          (pss_one (ps_ret (pe_lst (pa_cons (pe_ix ix_list (pv 1) pe_int (fun _ _ => rfl)) (pa_cons (pe_ix ix_list (pv 1) pe_int (fun _ _ => rfl)) (pa_cons (pe_ix ix_list (pe_lst (pa_cons pe_str (pa_cons pe_str pa_nil))) (pe_call G_coin (hr.mono (by decide)) rfl m_coin k_coin b_coin .nil pass0 (pa_cons (pv 0) (pa_cons pe_int pa_nil))) (fun _ _ => rfl)) (pa_cons (pv 2) (pa_cons (pv 3) (pa_cons (pv 5) (pa_cons (pv 4) (pa_cons (pv 6) (pa_cons (pv 7) pa_nil)))))))))))))))))))), ?_⟩
    refine ⟨fun σ h => ∃ q1 a b, σ = [some (.ref p), some (.ref q1), none, none, none, none, none, none] ∧ NameS a ∧ NameS b ∧ Bs p q1 a b H h (n + 18), ?_, ?_⟩
    · refine ⟨_, rfl, p, 2, n, rfl, u, by decide, by decide, by omega, fun q ns h nq hl hN hq u1 k1 => ?_⟩
      match ns, hl, hN, hq with
      | [a, b], _, hN, hq => exact ⟨q, a, b, rfl, hN a (by simp), hN b (by simp), ⟨k1, hq, u1⟩⟩
      | [], hl, _, _ => exact absurd hl (by decide)
      | [_], hl, _, _ => exact absurd hl (by simp)
      | _ :: _ :: _ :: _, hl, _, _ => exact absurd hl (by simp only [List.length_cons]; omega)
    rintro σ h1 ⟨q1, a, b, rfl, na, nb, B1⟩
    refine ⟨fun σ h => ∃ many : Int, σ = [some (.ref p), some (.ref q1), some (.int many), none, none, none, none, none] ∧ (1 ≤ many ∧ many ≤ 1000000000) ∧ Bs p q1 a b H h (n + 20), ?_, ?_⟩
    · refine ⟨_, rfl, _, _, rfl, rfl, ⟨by decide, by decide, by decide⟩, (by show 3 ≤ sizeLine; decide), fun u1 nu1 => ?_⟩
      have B2 := B1.new nu1 (o := .lst [.int 9, .int 100, .int (10 ^ (9 : Int).toNat)])
      refine ⟨_, rfl, p, _, _, rfl, B2.pu, by omega, by decide, by decide, fun r1 h2 r1a r1b w1 k1 => ?_⟩
      have B3 := B2.coin k1 w1
      have hu := coin_new B1.pu nu1 k1
      obtain ⟨v, hv, v1, v2⟩ : ∃ v : Int, atI [V.int 9, .int 100, .int (10 ^ (9 : Int).toNat)] r1 = some (.int v) ∧ 1 ≤ v ∧ v ≤ 1000000000 := by
        rcases at3 (x := V.int 9) (y := .int 100) (z := .int (10 ^ (9 : Int).toNat)) r1a r1b with e | e | e <;> exact ⟨_, e, by decide, by decide⟩
      refine ⟨u1, _, _, _, rfl, rfl, SqL.of hu, hv, p, _, _, rfl, B3.pu, by omega, v1, Int.lt_of_le_of_lt v2 (by decide), fun r2 h3 r2a r2b w2 k2 => ?_⟩
      exact ⟨_, _, rfl, rfl, _, rfl, ⟨by omega, by omega⟩, (B3.coin k2 w2).mono (by omega)⟩
    rintro σ h2 ⟨many, rfl, hm, B2⟩
    refine ⟨fun σ h => ∃ first : Int, σ = [some (.ref p), some (.ref q1), some (.int many), some (.int first), none, none, none, none] ∧ (1 ≤ first ∧ first ≤ 1000000) ∧ Bs p q1 a b H h (n + 22), ?_, ?_⟩
    · refine ⟨_, rfl, _, _, rfl, rfl, ⟨by decide, by decide, by decide⟩, (by show 2 ≤ sizeLine; decide), fun u1 nu1 => ?_⟩
      have B3 := B2.new nu1 (o := .lst [.int 9, .int (10 ^ (6 : Int).toNat)])
      refine ⟨_, rfl, p, _, _, rfl, B3.pu, by omega, by decide, by decide, fun r1 h2 r1a r1b w1 k1 => ?_⟩
      have B4 := B3.coin k1 w1
      have hu := coin_new B2.pu nu1 k1
      obtain ⟨v, hv, v1, v2⟩ : ∃ v : Int, atI [V.int 9, .int (10 ^ (6 : Int).toNat)] r1 = some (.int v) ∧ 1 ≤ v ∧ v ≤ 1000000 := by
        rcases at2 (x := V.int 9) (y := .int (10 ^ (6 : Int).toNat)) r1a r1b with ⟨_, e⟩ | ⟨_, e⟩ <;> exact ⟨_, e, by decide, by decide⟩
      refine ⟨u1, _, _, _, rfl, rfl, SqL.of hu, hv, p, _, _, rfl, B4.pu, by omega, v1, Int.lt_of_le_of_lt v2 (by decide), fun r2 h3 r2a r2b w2 k2 => ?_⟩
      exact ⟨_, _, rfl, rfl, _, rfl, ⟨by omega, by omega⟩, (B4.coin k2 w2).mono (by omega)⟩
    rintro σ h3 ⟨first, rfl, hf, B3⟩
    refine ⟨fun σ h => ∃ st : Option Int, σ = [some (.ref p), some (.ref q1), some (.int many), some (.int first), some (optV st), none, none, none] ∧ (∀ z, st = some z → 1 ≤ z ∧ z ≤ 1000000) ∧ Bs p q1 a b H h (n + 24), ?_, ?_⟩
    · refine ⟨_, rfl, _, _, rfl, rfl, ⟨by decide, by decide, by decide⟩, p, _, _, rfl, B3.pu, by omega, by decide, by decide, fun r1 h4 r1a r1b w1 k1 => ?_⟩
      have B4 := B3.coin k1 w1
      refine ⟨_, _, rfl, rfl, (by show 2 ≤ sizeLine; decide), fun u1 nu1 => ?_⟩
      have B5 := B4.new nu1 (o := .lst [.non, .int (1 + r1)])
      refine ⟨_, rfl, p, _, _, rfl, B5.pu, by omega, by decide, by decide, fun r2 h5 r2a r2b w2 k2 => ?_⟩
      have B6 := (B5.coin k2 w2).mono (show n + 22 + 1 + 1 ≤ n + 24 by omega)
      have hu := coin_new B4.pu nu1 k2
      have r1c : r1 < 1000000 := r1b
      rcases at2 (x := V.non) (y := .int (1 + r1)) r2a r2b with ⟨_, e⟩ | ⟨_, e⟩
      · exact ⟨u1, _, _, _, rfl, rfl, SqL.of hu, e, none, rfl, (fun z hz => by cases hz), B6⟩
      · refine ⟨u1, _, _, _, rfl, rfl, SqL.of hu, e, some (1 + r1), rfl, (fun z hz => ?_), B6⟩
        have := Option.some.inj hz
        omega
    rintro σ h4 ⟨st, rfl, hst, B4⟩
    refine ⟨fun σ h => ∃ pt : Option Int, σ = [some (.ref p), some (.ref q1), some (.int many), some (.int first), some (optV st), some (optV pt), none, none] ∧ (∀ z, pt = some z → 1 ≤ z ∧ z ≤ many ∧ many ≤ z * 20) ∧ Bs p q1 a b H h (n + 25), ?_, ?_⟩
    · refine ⟨_, rfl, _, rfl, _, _, rfl, rfl, _, _, rfl, rfl, wide_div (b := 8) (by decide) (by decide) (by decide) (by decide), _, rfl, _, _, rfl, rfl, _, _, rfl, rfl, wide_div (b := 8) (by decide) (by decide) (by decide) (by decide), (by show 4 ≤ sizeLine; decide), fun u1 nu1 => ?_⟩
      have B5 := B4.new nu1 (o := .lst [.non, .int many, .int ((many + 19) / 20), .int ((many + 1) / 2)])
      refine ⟨_, rfl, p, _, _, rfl, B5.pu, by omega, by decide, by decide, fun r2 h5 r2a r2b w2 k2 => ?_⟩
      have B6 := (B5.coin k2 w2).mono (show n + 24 + 1 ≤ n + 25 by omega)
      have hu := coin_new B4.pu nu1 k2
      rcases at4 (x := V.non) (y := .int many) (z := .int ((many + 19) / 20)) (t := .int ((many + 1) / 2)) r2a r2b with e | e | e | e
      · exact ⟨u1, _, _, _, rfl, rfl, SqL.of hu, e, none, rfl, (fun z hz => by cases hz), B6⟩
      · refine ⟨u1, _, _, _, rfl, rfl, SqL.of hu, e, some many, rfl, (fun z hz => ?_), B6⟩
        have := Option.some.inj hz
        omega
      · refine ⟨u1, _, _, _, rfl, rfl, SqL.of hu, e, some ((many + 19) / 20), rfl, (fun z hz => ?_), B6⟩
        have := Option.some.inj hz
        omega
      · refine ⟨u1, _, _, _, rfl, rfl, SqL.of hu, e, some ((many + 1) / 2), rfl, (fun z hz => ?_), B6⟩
        have := Option.some.inj hz
        omega
    rintro σ h5 ⟨pt, rfl, hpt, B5⟩
    refine ⟨fun σ h => ∃ way : Str, σ = [some (.ref p), some (.ref q1), some (.int many), some (.int first), some (optV st), some (optV pt), some (.str way), none] ∧ (way = "rest" ∨ way = "now" ∨ way = "whole" ∨ way = "only") ∧ Bs p q1 a b H h (n + 26), ?_, ?_⟩
    · refine ⟨(by show 4 ≤ sizeLine; decide), fun u1 nu1 => ?_⟩
      have B6 := B5.new nu1 (o := .lst [.str "rest", .str "now", .str "whole", .str "only"])
      refine ⟨_, rfl, p, _, _, rfl, B6.pu, by omega, by decide, by decide, fun r2 h5 r2a r2b w2 k2 => ?_⟩
      have B7 := (B6.coin k2 w2).mono (show n + 25 + 1 ≤ n + 26 by omega)
      have hu := coin_new B5.pu nu1 k2
      rcases at4 (x := V.str "rest") (y := .str "now") (z := .str "whole") (t := .str "only") r2a r2b with e | e | e | e
      · exact ⟨u1, _, _, _, rfl, rfl, SqL.of hu, e, _, rfl, .inl rfl, B7⟩
      · exact ⟨u1, _, _, _, rfl, rfl, SqL.of hu, e, _, rfl, .inr (.inl rfl), B7⟩
      · exact ⟨u1, _, _, _, rfl, rfl, SqL.of hu, e, _, rfl, .inr (.inr (.inl rfl)), B7⟩
      · exact ⟨u1, _, _, _, rfl, rfl, SqL.of hu, e, _, rfl, .inr (.inr (.inr rfl)), B7⟩
    rintro σ h6 ⟨way, rfl, hw, B6⟩
    refine ⟨fun σ h => ∃ pr sh : Option Int, σ = [some (.ref p), some (.ref q1), some (.int many), some (optV pr), some (optV st), some (optV sh), some (.str way), none] ∧ (∀ z, pr = some z → 1 ≤ z ∧ z ≤ 1000000) ∧ (way = "rest" ∨ way = "only" → ∃ z, pr = some z) ∧ (∀ z, sh = some z → (1 ≤ z ∧ z ≤ many ∧ many ≤ z * 20) ∧ (way = "rest" ∨ way = "only")) ∧ Bs p q1 a b H h (n + 27), ?_, ?_⟩
    · refine ⟨_, rfl, (by show 2 ≤ sizeLine; decide), fun u1 nu1 => ?_⟩
      have B7 := B6.new nu1 (o := .lst [.str "now", .str "whole"])
      refine ⟨u1, _, rfl, .inl (SqL.of upd_same), rfl, (by decide +kernel), ?_⟩
      have stay : inV (.str way) [.str "now", .str "whole"] = false → way = "rest" ∨ way = "only" := fun e => by
        rcases hw with h | h | h | h
        · exact .inl h
        · rw [h, nw] at e
          cases e
        · rw [h, ww] at e
          cases e
        · exact .inr h
      have go : inV (.str way) [.str "now", .str "whole"] = true → ¬ (way = "rest" ∨ way = "only") := fun e q => by
        rcases q with h | h
        · rw [h, rw_] at e
          cases e
        · rw [h, ow] at e
          cases e
      cases e : inV (.str way) [.str "now", .str "whole"] with
      | false =>
        refine ⟨false, rfl, iteF ?_⟩
        exact ⟨some first, pt, rfl, (fun z hz => by have := Option.some.inj hz; omega), (fun _ => ⟨_, rfl⟩), (fun z hz => ⟨hpt z hz, stay e⟩), B7.mono (by omega)⟩
      | true =>
        refine ⟨true, rfl, iteT ?_⟩
        refine ⟨_, rfl, (by show 2 ≤ sizeLine; decide), fun u2 nu2 => ?_⟩
        have B8 := B7.new nu2 (o := .lst [.non, .int first])
        refine ⟨_, rfl, p, _, _, rfl, B8.pu, by omega, by decide, by decide, fun r2 h5 r2a r2b w2 k2 => ?_⟩
        have B9 := (B8.coin k2 w2).mono (show n + 26 + 1 ≤ n + 27 by omega)
        have hu := coin_new B7.pu nu2 k2
        rcases at2 (x := V.non) (y := .int first) r2a r2b with ⟨_, e2⟩ | ⟨_, e2⟩
        · exact ⟨u2, _, _, _, rfl, rfl, SqL.of hu, e2, none, none, rfl, (fun z hz => by cases hz), (fun q => absurd q (go e)), (fun z hz => by cases hz), B9⟩
        · exact ⟨u2, _, _, _, rfl, rfl, SqL.of hu, e2, some first, none, rfl, (fun z hz => by have := Option.some.inj hz; omega), (fun q => absurd q (go e)), (fun z hz => by cases hz), B9⟩
    rintro σ h7 ⟨pr, sh, rfl, hpr, hpw, hsh, B7⟩
    refine ⟨fun σ h => ∃ who : Str, σ = [some (.ref p), some (.ref q1), some (.int many), some (optV pr), some (optV st), some (optV sh), some (.str way), some (.str who)] ∧ (who = "old" ∨ who = "new" ∨ who = "both" ∨ who = "less") ∧ Bs p q1 a b H h (n + 28), ?_, ?_⟩
    · refine ⟨(by show 4 ≤ sizeLine; decide), fun u1 nu1 => ?_⟩
      have B8 := B7.new nu1 (o := .lst [.str "old", .str "new", .str "both", .str "less"])
      refine ⟨_, rfl, p, _, _, rfl, B8.pu, by omega, by decide, by decide, fun r2 h5 r2a r2b w2 k2 => ?_⟩
      have B9 := (B8.coin k2 w2).mono (show n + 27 + 1 ≤ n + 28 by omega)
      have hu := coin_new B7.pu nu1 k2
      rcases at4 (x := V.str "old") (y := .str "new") (z := .str "both") (t := .str "less") r2a r2b with e | e | e | e
      · exact ⟨u1, _, _, _, rfl, rfl, SqL.of hu, e, _, rfl, .inl rfl, B9⟩
      · exact ⟨u1, _, _, _, rfl, rfl, SqL.of hu, e, _, rfl, .inr (.inl rfl), B9⟩
      · exact ⟨u1, _, _, _, rfl, rfl, SqL.of hu, e, _, rfl, .inr (.inr (.inl rfl)), B9⟩
      · exact ⟨u1, _, _, _, rfl, rfl, SqL.of hu, e, _, rfl, .inr (.inr (.inr rfl)), B9⟩
    rintro σ h8 ⟨who, rfl, hwho, B8⟩
    refine ⟨_, rfl, q1, _, _, _, rfl, rfl, SqL.of B8.nm, rfl, _, rfl, q1, _, _, _, rfl, rfl, SqL.of B8.nm, rfl, (by show 2 ≤ sizeLine; decide), fun u1 nu1 => ?_⟩
    have B9 := B8.new nu1 (o := .lst [.str "buy", .str "sell"])
    refine ⟨_, rfl, p, _, _, rfl, B9.pu, by omega, by decide, by decide, fun r2 h9 r2a r2b w2 k2 => ?_⟩
    have B10 := (B9.coin k2 w2).mono (show n + 28 + 1 ≤ n + 40 by omega)
    have hu := coin_new B8.pu nu1 k2
    obtain ⟨side, hside, hs⟩ : ∃ side : Str, atI [V.str "buy", .str "sell"] r2 = some (.str side) ∧ (side = "buy" ∨ side = "sell") := by
      rcases at2 (x := V.str "buy") (y := .str "sell") r2a r2b with ⟨_, e⟩ | ⟨_, e⟩
      · exact ⟨_, e, .inl rfl⟩
      · exact ⟨_, e, .inr rfl⟩
    refine ⟨u1, _, _, _, rfl, rfl, SqL.of hu, hside, _, rfl, _, rfl, _, rfl, _, rfl, _, rfl, _, rfl, (by show 9 ≤ sizeLine; decide), fun q nq => ?_⟩
    have nq0 : H q = none := by
      cases e : H q with
      | none => rfl
      | some o =>
        exfalso
        by_cases hqp : q = p
        · obtain ⟨_, _, _, e2, _⟩ := B10.pu
          rw [hqp, e2] at nq
          cases nq
        · have z := B10.kp q o hqp e
          rw [z] at nq
          cases nq
    exact k q ⟨a, b, side, many, pr, sh, st, way, who⟩ _ nq0 ⟨na, nb, hs, hm, hpr, fun z hz => (hsh z hz).1, hst, hw, hwho, hpw, fun z hz => (hsh z hz).2⟩ upd_same (B10.new nq).pu (B10.new nq).kp

/-! ### str(x), x an instance of an own class with its own __str__ -/
def rStrOwn (C : Addr) (sp : Sp) (E : XK) : List V → Hp → VK → Prop := fun xs H Q => ∃ a dx fs, xs = [V.ref a] ∧ H a = some (.ins C dx fs) ∧ sp [.ref a] H (fun z H' => ∃ y, z = .str y ∧ Q z H') E
theorem call_strOwn {X : Cx} {CX : CXT} {C g : Addr} {n : Nat} {sp : Sp} {E : XK} (hs : PySem.W.findIn X.K (.ref C) "__str__" = some (some (.ref g))) (hf : PySem.W.isFn X.K (.ref g) = true) (F : FnR X.prog X.w X.K X.mg X.base CX n g sp) (hr : Room (n + 2) X.A) (hx : Passes CX X E) :
    CallR X (.type "str") (rStrOwn C sp E) := by
  intro pins s σ H xs us Q I r h
  obtain ⟨a, dx, fs, rfl, ha, q⟩ := h
  obtain ⟨u, rfl, ru⟩ := r.one
  cases (show u = Value.ref a from ru)
  obtain ⟨mA, O, _⟩ := ins_get I.hok ha
  obtain ⟨od, J, _⟩ := O.look
  have hr2 : Room n X.A.in1.in1 := (show Room (n + 1) X.A.in1 from Room.in1 hr).in1
  refine PySem.W.kso_call hr2.units0 I.kIn J hs hf ?_
  refine wpAny_mono (wpAny_call (SlX.run_at (us := [.ref a]) (ws := [.ref a]) F hr2 I.env0.in1.in1 hx I (.cons rfl .nil) q)) (fun w s' z => ?_) fun _ _ x => x
  obtain ⟨z', H', I', rz, y, ey, qz⟩ := z
  subst ey
  obtain ⟨t, e⟩ := (show ∃ t, w = Value.str y t from rz)
  cases e
  exact ⟨.str y, H', I', ⟨t, rfl⟩, qz⟩

/-! ### the law's own text of an order -/
def T1 (o : OV) : Str := o.side ++ " " ++ numS o.amount ++ " " ++ o.thing
def addN (pre : Str) (t : Str) : Option Int → Str
  | none => t
  | some i => t ++ pre ++ numS i
def addT (pre usual t s : Str) : Str := if s = usual then t else t ++ pre ++ s
def T2 (o : OV) : Str := addN " at " (T1 o) o.price
def T3 (o : OV) : Str := addN " show " (T2 o) o.shown
def T4 (o : OV) : Str := addN " stop " (T3 o) o.stop
def T5 (o : OV) : Str := addT " life " "rest" (T4 o) o.life
def T6 (o : OV) : Str := addT " guard " "old" (T5 o) o.guard
def T7 (o : OV) : Str := T6 o ++ " by " ++ o.owner
theorem joinL_snoc (S x : List Nat) : ∀ W : List (List Nat), W ≠ [] → TL.joinL S (W ++ [x]) = TL.joinL S W ++ (S ++ x)
  | [], h => absurd rfl h
  | [p], _ => rfl
  | p :: q :: r, _ => by
    have h := joinL_snoc S x (q :: r) (by simp)
    show p ++ (S ++ TL.joinL S ((q :: r) ++ [x])) = (p ++ (S ++ TL.joinL S (q :: r))) ++ (S ++ x)
    rw [h]
    simp only [List.append_assoc]
theorem join_snoc (W : List Str) (x : Str) (h : W ≠ []) : Txt.join " " (W ++ [x]) = Txt.join " " W ++ " " ++ x := by
  refine TL.ext_tl ?_
  rw [TL.tl_append, TL.tl_append, TL.join_eq, TL.join_eq, TL.tl_join, TL.tl_join, List.map_append]
  rw [show [x].map TL.tl = [TL.tl x] from rfl, joinL_snoc _ _ _ (by simpa using h), List.append_assoc]
theorem join_one (x : Str) : Txt.join " " [x] = x := by
  refine TL.ext_tl ?_
  rw [TL.join_eq, TL.tl_join]
  rfl
theorem glue (t x n a b : Str) (h : " " ++ a = b) : t ++ " " ++ (Str.empty ++ a ++ n) = t ++ b ++ n := by
  rw [Str.empty_append, ← h]
  simp only [Str.append_assoc]
theorem blank_at : (" " : Str) ++ "at " = " at " := by decide +kernel
theorem blank_show : (" " : Str) ++ "show " = " show " := by decide +kernel
theorem blank_stop : (" " : Str) ++ "stop " = " stop " := by decide +kernel
theorem blank_life : (" " : Str) ++ "life " = " life " := by decide +kernel
theorem blank_guard : (" " : Str) ++ "guard " = " guard " := by decide +kernel
theorem blank_by : (" " : Str) ++ "by " = " by " := by decide +kernel
theorem W1_ne (o : OV) : W1 o ≠ [] := by
  unfold W1
  simp
theorem app_ne {W X : List Str} (h : W ≠ []) : W ++ X ≠ [] := by simp [h]
theorem j1 (o : OV) : Txt.join " " (W1 o) = T1 o := by
  unfold W1 T1 firstWord
  rw [join_one, Str.empty_append]
theorem jN {W : List Str} {t : Str} (pre pre2 : Str) (x : Option Int) (h : Txt.join " " W = t) (ne : W ≠ []) (e : " " ++ pre = pre2) : Txt.join " " (W ++ optW pre x) = addN pre2 t x := by
  cases x with
  | none =>
    show Txt.join " " (W ++ []) = t
    rw [List.append_nil, h]
  | some i =>
    show Txt.join " " (W ++ [Str.empty ++ pre ++ numS i]) = t ++ pre2 ++ numS i
    rw [join_snoc _ _ ne, h]
    exact glue t t (numS i) pre pre2 e
theorem jT {W : List Str} {t : Str} (pre pre2 us s : Str) (h : Txt.join " " W = t) (ne : W ≠ []) (e : " " ++ pre = pre2) : Txt.join " " (W ++ txtW pre us s) = addT pre2 us t s := by
  unfold txtW addT
  by_cases c : s = us
  · rw [if_pos c, if_pos c, List.append_nil, h]
  · rw [if_neg c, if_neg c, join_snoc _ _ ne, h]
    exact glue t t s pre pre2 e
theorem text_eq (o : OV) : ordText o = T7 o := by
  have n1 := W1_ne o
  have n2 : W2 o ≠ [] := app_ne n1
  have n3 : W3 o ≠ [] := app_ne n2
  have n4 : W4 o ≠ [] := app_ne n3
  have n5 : W5 o ≠ [] := app_ne n4
  have n6 : W6 o ≠ [] := app_ne n5
  have e2 : Txt.join " " (W2 o) = T2 o := jN _ _ _ (j1 o) n1 blank_at
  have e3 : Txt.join " " (W3 o) = T3 o := jN _ _ _ e2 n2 blank_show
  have e4 : Txt.join " " (W4 o) = T4 o := jN _ _ _ e3 n3 blank_stop
  have e5 : Txt.join " " (W5 o) = T5 o := jT _ _ _ _ e4 n4 blank_life
  have e6 : Txt.join " " (W6 o) = T6 o := jT _ _ _ _ e5 n5 blank_guard
  show Txt.join " " (W6 o ++ [Str.empty ++ "by " ++ o.owner]) = T6 o ++ " by " ++ o.owner
  rw [join_snoc _ _ n6, e6]
  exact glue (T6 o) (T6 o) o.owner _ _ blank_by
theorem addN_len {pre t : Str} {x : Option Int} {n : Nat} (h : t.length ≤ n) (hp : pre.length ≤ 10) (hx : ∀ z, x = some z → 0 ≤ z ∧ z ≤ 1000000000) : (addN pre t x).length ≤ n + 20 := by
  cases x with
  | none => exact Nat.le_trans h (Nat.le_add_right _ _)
  | some i =>
    have z := num_len (hx i rfl).1 (hx i rfl).2
    show (t ++ pre ++ numS i).length ≤ n + 20
    rw [Str.length_append, Str.length_append]
    omega
theorem addT_len {pre us t s : Str} {n : Nat} (h : t.length ≤ n) (hp : pre.length ≤ 10) (hs : s.length ≤ 10) : (addT pre us t s).length ≤ n + 20 := by
  unfold addT
  split
  · omega
  · rw [Str.length_append, Str.length_append]
    omega
theorem pre_len : (" at " : Str).length ≤ 10 ∧ (" show " : Str).length ≤ 10 ∧ (" stop " : Str).length ≤ 10 ∧ (" life " : Str).length ≤ 10 ∧ (" guard " : Str).length ≤ 10 ∧ (" by " : Str).length ≤ 10 := by decide +kernel
def spLawText : Sp := fun vs H Q _ => ∃ (q : Addr) (o : OV), vs = [.ref q] ∧ H q = some (.lst (partsL o)) ∧ o.Ok ∧ Q (.str (T7 o)) H
abbrev s_law_text : Stmt := topS 34
theorem sc_law_text : FnScope ["parts", "text"] ["parts"] (defScope s_law_text) := ⟨rfl, rfl, rfl, by decide +kernel, rfl, by decide +kernel, by decide +kernel⟩
theorem ok_text {f : Addr} {fd : FuncData} (F : Fun K "_law_text" "_law_text" s_law_text f fd) (T : Txt mg) : FnOk P w K mg base CX0 1 f fd ["parts"] spLawText := by
  refine F.ok sc_law_text (fun vs H Q E h => ?_) (fun cdv A outer s H vs Q E hr h => ?_)
  · obtain ⟨q, o, rfl, _⟩ := h
    rfl
  · obtain ⟨q, o, rfl, hq, ok, k⟩ := h
    refine ⟨_, (C8.pss_cut (ps_set (i := 1) sc_law_text.nd rfl (Or.inl rfl) (pe_op op_add_str (pe_op op_add_str (pe_op op_add_str (pe_op op_add_str (pe_ix ix_list (pv 0) pe_int (fun _ _ => rfl)) pe_str) (pe_callTy call_str_int (by rfl) T.b_str (by decide +kernel) (pa_cons (pe_ix ix_list (pv 0) pe_int (fun _ _ => rfl)) pa_nil))) pe_str) (pe_ix ix_list (pv 0) pe_int (fun _ _ => rfl))))
          (C8.pss_cut (ps_if (pt_cmpR op_notN (pe_ix ix_list (pv 0) pe_int (fun _ _ => rfl)) pe_non (nomark _)) (pss_one (ps_set (i := 1) sc_law_text.nd rfl (Or.inl rfl) (pe_op op_add_str (pe_op op_add_str (pv 1) pe_str) (pe_callTy call_str_int (by rfl) T.b_str (by decide +kernel) (pa_cons (pe_ix ix_list (pv 0) pe_int (fun _ _ => rfl)) pa_nil))))) pss_nil)
          (C8.pss_cut (ps_if (pt_cmpR op_notN (pe_ix ix_list (pv 0) pe_int (fun _ _ => rfl)) pe_non (nomark _)) (pss_one (ps_set (i := 1) sc_law_text.nd rfl (Or.inl rfl) (pe_op op_add_str (pe_op op_add_str (pv 1) pe_str) (pe_callTy call_str_int (by rfl) T.b_str (by decide +kernel) (pa_cons (pe_ix ix_list (pv 0) pe_int (fun _ _ => rfl)) pa_nil))))) pss_nil)
          (C8.pss_cut (ps_if (pt_cmpR op_notN (pe_ix ix_list (pv 0) pe_int (fun _ _ => rfl)) pe_non (nomark _)) (pss_one (ps_set (i := 1) sc_law_text.nd rfl (Or.inl rfl) (pe_op op_add_str (pe_op op_add_str (pv 1) pe_str) (pe_callTy call_str_int (by rfl) T.b_str (by decide +kernel) (pa_cons (pe_ix ix_list (pv 0) pe_int (fun _ _ => rfl)) pa_nil))))) pss_nil)
          (C8.pss_cut (ps_if (pt_cmpR op_ne (pe_ix ix_list (pv 0) pe_int (fun _ _ => rfl)) pe_str (nomark _)) (pss_one (ps_set (i := 1) sc_law_text.nd rfl (Or.inl rfl) (pe_op op_add_str (pe_op op_add_str (pv 1) pe_str) (pe_ix ix_list (pv 0) pe_int (fun _ _ => rfl))))) pss_nil)
          (C8.pss_cut (ps_if (pt_cmpR op_ne (pe_ix ix_list (pv 0) pe_int (fun _ _ => rfl)) pe_str (nomark _)) (pss_one (ps_set (i := 1) sc_law_text.nd rfl (Or.inl rfl) (pe_op op_add_str (pe_op op_add_str (pv 1) pe_str) (pe_ix ix_list (pv 0) pe_int (fun _ _ => rfl))))) pss_nil)
          (pss_one (ps_ret (pe_op op_add_str (pe_op op_add_str (pv 1) pe_str) (pe_ix ix_list (pv 0) pe_int (fun _ _ => rfl))))))))))), ?_⟩
    have z1 := side_len ok
    have z2 := ok.thing.2.1
    have z3 := ok.owner.2.1
    have z4 := num_len (Int.le_trans (by decide) ok.amount.1) ok.amount.2
    have z5 := life_len ok
    have z6 := guard_len ok
    have hb := len_blank
    obtain ⟨p1, p2, p3, p4, p5, p6⟩ := pre_len
    have small : ∀ n : Nat, n ≤ 1000 → n ≤ sizeLine := fun n h => Nat.le_trans h (by decide)
    have t1 : (T1 o).length ≤ 60 := by
      unfold T1
      simp only [Str.length_append]
      omega
    have b1 : ∀ z, o.price = some z → 0 ≤ z ∧ z ≤ 1000000000 := fun z h => by have := ok.price z h; omega
    have b2 : ∀ z, o.shown = some z → 0 ≤ z ∧ z ≤ 1000000000 := fun z h => by have := ok.shown z h; have := ok.amount; omega
    have b3 : ∀ z, o.stop = some z → 0 ≤ z ∧ z ≤ 1000000000 := fun z h => by have := ok.stop z h; omega
    have t2 : (T2 o).length ≤ 80 := addN_len t1 p1 b1
    have t3 : (T3 o).length ≤ 100 := addN_len t2 p2 b2
    have t4 : (T4 o).length ≤ 120 := addN_len t3 p3 b3
    have t5 : (T5 o).length ≤ 140 := addT_len t4 p4 (Nat.le_trans z5 (by decide))
    have t6 : (T6 o).length ≤ 160 := addT_len t5 p5 (Nat.le_trans z6 (by decide))
    have at_ : ∀ {j : Nat} {v : V}, (partsL o)[j]? = some v → atI (partsL o) (j : Int) = some v := fun h => atI_nat h
    refine ⟨fun σ h => σ = [some (.ref q), some (.str (T1 o))] ∧ h = H, ?_, ?_⟩
    · refine ⟨_, rfl, q, _, _, _, rfl, rfl, SqL.of hq, rfl, _, _, rfl, rfl, small _ (by omega), ?_⟩
      refine ⟨_, rfl, q, _, _, _, rfl, rfl, SqL.of hq, rfl, _, rfl, num_log (Int.le_trans (by decide) ok.amount.1) ok.amount.2, _, _, rfl, rfl, small _ (by simp only [Str.length_append]; unfold numS at z4; omega), ?_⟩
      refine ⟨_, _, rfl, rfl, small _ (by simp only [Str.length_append]; unfold numS at z4; omega), ?_⟩
      refine ⟨_, rfl, q, _, _, _, rfl, rfl, SqL.of hq, rfl, _, _, rfl, rfl, small _ (by simp only [Str.length_append]; unfold numS at z4; omega), ?_⟩
      exact ⟨rfl, rfl⟩
    rintro σ h ⟨rfl, e⟩
    rw [e]
    clear e h
    refine ⟨fun σ g => σ = [some (.ref q), some (.str (T2 o))] ∧ g = H, ?_, ?_⟩
    · refine ⟨_, rfl, q, _, _, _, rfl, rfl, SqL.of hq, rfl, rfl, _, rfl, ?_⟩
      unfold T2
      cases hi : o.price with
      | none => exact iteNS rfl ⟨rfl, rfl⟩
      | some i =>
        have zi := num_len (b1 i hi).1 (b1 i hi).2
        have hv : atI (partsL o) 4 = some (.int i) := by
          show some (optV o.price) = _
          rw [hi]
          rfl
        refine iteT ?_
        refine ⟨_, rfl, _, _, rfl, rfl, small _ (by omega), _, rfl, q, _, _, _, rfl, rfl, SqL.of hq, hv, _, rfl, num_log (b1 i hi).1 (b1 i hi).2, _, _, rfl, rfl, small _ (by simp only [Str.length_append]; unfold numS at zi; omega), ?_⟩
        exact ⟨rfl, rfl⟩
    rintro σ g ⟨rfl, e⟩
    rw [e]
    clear e g
    refine ⟨fun σ g => σ = [some (.ref q), some (.str (T3 o))] ∧ g = H, ?_, ?_⟩
    · refine ⟨_, rfl, q, _, _, _, rfl, rfl, SqL.of hq, rfl, rfl, _, rfl, ?_⟩
      unfold T3
      cases hi : o.shown with
      | none => exact iteNS rfl ⟨rfl, rfl⟩
      | some i =>
        have zi := num_len (b2 i hi).1 (b2 i hi).2
        have hv : atI (partsL o) 5 = some (.int i) := by
          show some (optV o.shown) = _
          rw [hi]
          rfl
        refine iteT ?_
        refine ⟨_, rfl, _, _, rfl, rfl, small _ (by omega), _, rfl, q, _, _, _, rfl, rfl, SqL.of hq, hv, _, rfl, num_log (b2 i hi).1 (b2 i hi).2, _, _, rfl, rfl, small _ (by simp only [Str.length_append]; unfold numS at zi; omega), ?_⟩
        exact ⟨rfl, rfl⟩
    rintro σ g ⟨rfl, e⟩
    rw [e]
    clear e g
    refine ⟨fun σ g => σ = [some (.ref q), some (.str (T4 o))] ∧ g = H, ?_, ?_⟩
    · refine ⟨_, rfl, q, _, _, _, rfl, rfl, SqL.of hq, rfl, rfl, _, rfl, ?_⟩
      unfold T4
      cases hi : o.stop with
      | none => exact iteNS rfl ⟨rfl, rfl⟩
      | some i =>
        have zi := num_len (b3 i hi).1 (b3 i hi).2
        have hv : atI (partsL o) 6 = some (.int i) := by
          show some (optV o.stop) = _
          rw [hi]
          rfl
        refine iteT ?_
        refine ⟨_, rfl, _, _, rfl, rfl, small _ (by omega), _, rfl, q, _, _, _, rfl, rfl, SqL.of hq, hv, _, rfl, num_log (b3 i hi).1 (b3 i hi).2, _, _, rfl, rfl, small _ (by simp only [Str.length_append]; unfold numS at zi; omega), ?_⟩
        exact ⟨rfl, rfl⟩
    rintro σ g ⟨rfl, e⟩
    rw [e]
    clear e g
    refine ⟨fun σ g => σ = [some (.ref q), some (.str (T5 o))] ∧ g = H, ?_, ?_⟩
    · refine ⟨_, rfl, q, _, _, _, rfl, rfl, SqL.of hq, rfl, rfl, _, rfl, ?_⟩
      unfold T5 addT
      refine ite2 (fun c => ?_) (fun c => ?_)
      · have ne : ¬ o.life = "rest" := fun e => by
          rw [e, decide_eq_true rfl] at c
          cases c
        rw [if_neg ne]
        refine ⟨_, rfl, _, _, rfl, rfl, small _ (by omega), _, rfl, q, _, _, _, rfl, rfl, SqL.of hq, rfl, _, _, rfl, rfl, small _ (by (try simp only [Str.length_append]); omega), ?_⟩
        exact ⟨rfl, rfl⟩
      · have eq : o.life = "rest" := by
          by_cases e : o.life = "rest"
          · exact e
          · exact absurd (by rw [decide_eq_false (fun q => e (V.str.inj q))]; rfl) c
        rw [if_pos eq]
        exact ⟨rfl, rfl⟩
    rintro σ g ⟨rfl, e⟩
    rw [e]
    clear e g
    refine ⟨fun σ g => σ = [some (.ref q), some (.str (T6 o))] ∧ g = H, ?_, ?_⟩
    · refine ⟨_, rfl, q, _, _, _, rfl, rfl, SqL.of hq, rfl, rfl, _, rfl, ?_⟩
      unfold T6 addT
      refine ite2 (fun c => ?_) (fun c => ?_)
      · have ne : ¬ o.guard = "old" := fun e => by
          rw [e, decide_eq_true rfl] at c
          cases c
        rw [if_neg ne]
        refine ⟨_, rfl, _, _, rfl, rfl, small _ (by omega), _, rfl, q, _, _, _, rfl, rfl, SqL.of hq, rfl, _, _, rfl, rfl, small _ (by (try simp only [Str.length_append]); omega), ?_⟩
        exact ⟨rfl, rfl⟩
      · have eq : o.guard = "old" := by
          by_cases e : o.guard = "old"
          · exact e
          · exact absurd (by rw [decide_eq_false (fun q => e (V.str.inj q))]; rfl) c
        rw [if_pos eq]
        exact ⟨rfl, rfl⟩
    rintro σ g ⟨rfl, e⟩
    rw [e]
    clear e g
    refine ⟨_, rfl, _, _, rfl, rfl, small _ (by (try simp only [Str.length_append]); omega), _, rfl, q, _, _, _, rfl, rfl, SqL.of hq, rfl, _, _, rfl, rfl, small _ (by (try simp only [Str.length_append]); omega), ?_⟩
    exact k

/-! ### the law -/
def spLaw (K : PySem.W.Frag) : Sp := fun vs H Q _ => ∃ (a : Addr) (ns : List Int), vs = [.ref a] ∧ SqL K H a (ns.map V.int) ∧ ns.length ≤ 63 ∧ ∀ H', Q (.bl true) H'
abbrev s_law : Stmt := topS 35
theorem sc_law : FnScope ["script", "k", "purse", "turn", "parts", "one"] ["script"] (defScope s_law) := ⟨rfl, rfl, rfl, by decide +kernel, rfl, by decide +kernel, by decide +kernel⟩
theorem ok_law {f C fI fS : Addr} {fd fdI fdS : FuncData} (F : Fun K "law" "law" s_law f fd) (T : Txt mg) (O : OTxt K mg C) (M_Order : Mk K C fI) (G_Order : FnOk P w K mg base CX0 4 fI fdI ["self", "owner", "thing", "side", "amount", "price", "shown", "stop", "life", "guard"] (spOrder C))
    (b_Order : KBn K fdI ["self", "owner", "thing", "side", "amount", "price", "shown", "stop", "life", "guard"] 5 ["price", "shown", "stop", "life", "guard"] (fun us ws => us ++ ws) (fun us ws => us ++ ws))
    (hs : PySem.W.findIn K (.ref C) "__str__" = some (some (.ref fS))) (hf : PySem.W.isFn K (.ref fS) = true) (GS : FnOk P w K mg base CX0 1 fS fdS ["self"] (spText C)) (bS : Binds K fdS ["self"] [])
    (c_purse : Cal P w K mg base 1 "_law_purse" ["script", "k"] (spPurse K)) (c_parts : Cal P w K mg base 3 "_law_parts" ["purse"] spParts) (c_text : Cal P w K mg base 1 "_law_text" ["parts"] spLawText) : FnOk P w K mg base CX0 6 f fd ["script"] (spLaw K) := by
  refine F.ok sc_law (fun vs H Q E h => ?_) (fun cdv A outer s H vs Q E hr h => ?_)
  · obtain ⟨a, ns, rfl, _⟩ := h
    rfl
  · obtain ⟨a, ns, rfl, hS, hlen, k⟩ := h
    obtain ⟨f_purse, fd_purse, G_purse, m_purse, k_purse, b_purse⟩ := c_purse
    obtain ⟨f_parts, fd_parts, G_parts, m_parts, k_parts, b_parts⟩ := c_parts
    obtain ⟨f_text, fd_text, G_text, m_text, k_text, b_text⟩ := c_text
    have m_Order := O.mgC
    have GS' : FnR P w K mg base CX0 1 fS (spText C) := (GS.raw bS .nil).imp fun vs H Q E h => by rw [List.append_nil]; exact h
    refine ⟨_, (pss_cons (ps_for PassesOwn.never rfl (pi_range1 rfl T.b_range (pa_cons (pe_callB (call_max2 rfl) (by rfl) T.b_max (by decide +kernel) (pa_cons pe_int (pa_cons (pe_callB (call_min2 rfl) (by rfl) T.b_min (by decide +kernel) (pa_cons pe_int (pa_cons (pe_callB call_len_seq (by rfl) T.b_len PySem.boot_len (pa_cons (pv 0) pa_nil)) pa_nil))) pa_nil))) pa_nil)) (pg_name (i := 1) sc_law.nd rfl (Or.inl rfl))
           (pss_cons (ps_set (i := 2) sc_law.nd rfl (Or.inl rfl) (pe_call G_purse (hr.mono (by decide)) rfl m_purse k_purse b_purse .nil pass0 (pa_cons (pv 0) (pa_cons (pv 1) pa_nil))))
            (pss_one (ps_for PassesOwn.never rfl (pi_range1 rfl T.b_range (pa_cons pe_int pa_nil)) (pg_name (i := 3) sc_law.nd rfl (Or.inl rfl))
             (C8.pss_cut (ps_set (i := 4) sc_law.nd rfl (Or.inl rfl) (pe_call G_parts (hr.mono (by decide)) rfl m_parts k_parts b_parts .nil pass0 (pa_cons (pv 2) pa_nil)))
              (C8.pss_cut (ps_set (i := 5) sc_law.nd rfl (Or.inl rfl) (pe_makeK M_Order G_Order (hr.mono (by decide)) rfl m_Order b_Order pass0 (pa_cons (pe_ix ix_list (pv 4) pe_int (fun _ _ => rfl)) (pa_cons (pe_ix ix_list (pv 4) pe_int (fun _ _ => rfl)) (pa_cons (pe_ix ix_list (pv 4) pe_int (fun _ _ => rfl)) (pa_cons (pe_ix ix_list (pv 4) pe_int (fun _ _ => rfl)) pa_nil)))) (pk_cons (pe_ix ix_list (pv 4) pe_int (fun _ _ => rfl)) (pk_cons (pe_ix ix_list (pv 4) pe_int (fun _ _ => rfl)) (pk_cons (pe_ix ix_list (pv 4) pe_int (fun _ _ => rfl)) (pk_cons (pe_ix ix_list (pv 4) pe_int (fun _ _ => rfl)) (pk_cons (pe_ix ix_list (pv 4) pe_int (fun _ _ => rfl)) pk_nil)))))))
              (pss_one (ps_if (PW.pt (pw_or (pt_cmpR op_ne (pe_callTy (call_strOwn (E := E0) hs hf GS' (hr.mono (by decide)) pass0) (by rfl) T.b_str (by decide +kernel) (pa_cons (pv 5) pa_nil)) (pe_call G_text (hr.mono (by decide)) rfl m_text k_text b_text .nil pass0 (pa_cons (pv 4) pa_nil)) (nomark _)) (pw_or1 (pt_cmpR op_ne (pe_callTy (call_strOwn (E := E0) hs hf GS' (hr.mono (by decide)) pass0) (by rfl) T.b_str (by decide +kernel) (pa_cons (pv 5) pa_nil)) (pe_call G_text (hr.mono (by decide)) rfl m_text k_text b_text .nil pass0 (pa_cons (pv 4) pa_nil)) (nomark _))))) (pss_one (ps_ret pe_bl)) pss_nil))))))))
          (pss_one (ps_ret pe_bl))), ?_⟩
    have hl' : ((ns.map V.int).length : Int) = (ns.length : Int) := by rw [List.length_map]
    refine ⟨_, rfl, _, _, rfl, .inl hS, _, _, rfl, _, _, rfl, _, rfl, ?lo, ?hi, ?_⟩
    case lo => rw [hl']; split <;> split <;> omega
    case hi => rw [hl']; split <;> split <;> omega
    rw [hl']
    refine for_range (lo := 0) (fun i σ H' => ∃ v1 v2 v3 v4 v5, σ = [some (.ref a), v1, v2, v3, v4, v5] ∧ Same H H') ⟨_, _, _, _, _, rfl, Same.refl H⟩ ?_ ?_
    · rintro i σ H1 hi ⟨v1, v2, v3, v4, v5, rfl, s1⟩
      have hi8 : (0 : Int) + (i : Int) < 64 := by
        have h3 := hi
        revert h3
        split <;> split <;> intro h3 <;> omega
      refine ⟨_, rfl, _, rfl, a, ns, _, rfl, s1.seq hS, hlen, by omega, hi8, fun p H2 np s2 u2 => ?_⟩
      have p0 : H p = none := s1.free np
      have s02 : Same H H2 := s1.trans s2
      refine ⟨_, rfl, by decide, by decide, ?_⟩
      refine for_range (lo := 0) (fun i σ H' => ∃ v1 v3 v4 v5, σ = [some (.ref a), v1, some (.ref p), v3, v4, v5] ∧ Same H H' ∧ Pu H' p (40 * i)) ⟨_, _, _, _, rfl, s02, u2.mono (by omega)⟩ ?_ ?_
      · rintro j σ H3 hj ⟨w1, w3, w4, w5, rfl, s3, u3⟩
        have hj8 : (j : Int) < 12 := by
          have : j < 12 := hj
          omega
        refine ⟨fun σ h => ∃ (q : Addr) (o : OV), σ = [some (.ref a), w1, some (.ref p), some (.int (0 + (j : Int))), some (.ref q), w5] ∧ o.Ok ∧ h q = some (.lst (partsL o)) ∧ Same H h ∧ Pu h p (40 * j + 40), ?_, ?_⟩
        · refine ⟨_, rfl, p, _, rfl, u3, by omega, fun q o h nq ok hq u4 k4 => ?_⟩
          exact ⟨q, o, rfl, ok, hq, Same.keep s3 k4 p0, u4⟩
        rintro σ H4 ⟨q, o, rfl, ok, hq, s4, u4⟩
        refine ⟨fun σ h => ∃ x, σ = [some (.ref a), w1, some (.ref p), some (.int (0 + (j : Int))), some (.ref q), some (.ref x)] ∧ OAt C h x o ∧ h q = some (.lst (partsL o)) ∧ Same H h ∧ Pu h p (40 * j + 40), ?_, ?_⟩
        · refine ⟨_, rfl, q, _, _, _, rfl, rfl, SqL.of hq, rfl, _, rfl, q, _, _, _, rfl, rfl, SqL.of hq, rfl, _, rfl, q, _, _, _, rfl, rfl, SqL.of hq, rfl, _, rfl, q, _, _, _, rfl, rfl, SqL.of hq, rfl, ?_⟩
          refine ⟨_, rfl, q, _, _, _, rfl, rfl, SqL.of hq, rfl, _, rfl, q, _, _, _, rfl, rfl, SqL.of hq, rfl, _, rfl, q, _, _, _, rfl, rfl, SqL.of hq, rfl, _, rfl, q, _, _, _, rfl, rfl, SqL.of hq, rfl, _, rfl, q, _, _, _, rfl, rfl, SqL.of hq, rfl, ?_⟩
          refine ⟨rfl, rfl, fun x dx nx ndx ne => ?_⟩
          have g0 : ∀ b u, b ≠ x → H4 b = some u → (upd (upd H4 dx (.own x)) x (.ins C dx [])) b = some u := fun b u nb e => by
            rw [upd_ne nb, upd_ne (ne_of_none e ndx)]
            exact e
          refine ⟨x, dx, o, rfl, upd_same, ok, fun H5 hx k5 => ⟨rfl, ?_⟩⟩
          have g1 : Same H4 H5 := fun b u e => k5 b u (ne_of_none e nx) (g0 b u (ne_of_none e nx) e)
          exact ⟨x, rfl, hx, g1 _ _ hq, s4.trans g1, u4.same g1⟩
        rintro σ H5 ⟨x, rfl, hx, hq5, s5, u5⟩
        obtain ⟨dx, hx'⟩ := id hx
        refine ⟨_, rfl, x, dx, _, rfl, hx', x, o, rfl, hx, ok, fun H6 s6 => ⟨_, rfl, ?_⟩⟩
        refine ⟨_, rfl, q, o, rfl, s6 _ _ hq5, ok, ?_⟩
        refine ⟨rfl, _, rfl, ?_⟩
        rw [text_eq]
        refine (iteNS rfl ?_)
        have hx6 := hx.same s6
        obtain ⟨dx6, hx6'⟩ := id hx6
        refine ⟨_, rfl, x, dx6, _, rfl, hx6', x, o, rfl, hx6, ok, fun H7 s7 => ⟨_, rfl, ?_⟩⟩
        refine ⟨_, rfl, q, o, rfl, s7 _ _ (s6 _ _ hq5), ok, ?_⟩
        refine ⟨rfl, _, rfl, ?_⟩
        rw [text_eq]
        refine (iteNS rfl ?_)
        exact ⟨_, _, _, _, rfl, s5.trans (s6.trans s7), (u5.same (s6.trans s7)).mono (by omega)⟩
      · rintro σ H3 ⟨w1, w3, w4, w5, rfl, s3, u3⟩
        exact ⟨_, _, _, _, _, rfl, s3⟩
    · rintro σ H1 ⟨v1, v2, v3, v4, v5, rfl, s1⟩
      exact k H1

end
/-! ### what the top has written, the end -/
theorem all_mk {l : PySem.W.OpenLaw} {w : World} {K : PySem.W.Frag} {h : Heap} {mg : Str → Option Value} {fa f1 f2 f3 f4 f5 f6 f7 f8 f9 f10 f11 f12 f13 f14 : Addr} (X : K.In h) (G : h.Ns mainGlobals mg) (hfa : mg "law" = some (.ref fa))
    {od1 an1 od2 an2 od3 an3 od4 an4 od5 an5 od6 an6 od7 an7 od8 an8 od9 an9 od10 an10 od11 an11 od12 an12 od13 an13 od14 an14 : Option Addr} {sl1 sl2 sl3 sl4 sl5 sl6 sl7 sl8 sl9 sl10 sl11 sl12 sl13 sl14 : Array (Option Value)} {oc1 kV1 dc1 pm1 cd1 ct1 oc2 kV2 dc2 pm2 cd2 ct2 oc3 kV3 dc3 pm3 cd3 ct3 oc4 kV4 dc4 pm4 cd4 ct4 oc5 kV5 dc5 pm5 cd5 ct5 oc6 kV6 dc6 pm6 cd6 ct6 oc7 kV7 dc7 pm7 cd7 ct7 oc8 kV8 dc8 pm8 cd8 ct8 oc9 kV9 dc9 pm9 cd9 ct9 oc10 kV10 dc10 pm10 cd10 ct10 oc11 kV11 dc11 pm11 cd11 ct11 oc12 kV12 dc12 pm12 cd12 ct12 oc13 kV13 dc13 pm13 cd13 ct13 oc14 kV14 dc14 pm14 cd14 ct14 : Value}
    {C fI fS DI : Addr} {odI anI odS anS : Option Addr} {slI slS : Array (Option Value)} {ocI dcI pmI cdI ctI ocS kVS dcS pmS cdS ctS : Value}
    (a1 : PySem.W.nsIn K mainGlobals "_law_purse" = some (some (.ref f1))) (l1 : K.lookup f1 = some ⟨oc1, od1, .func (PySem.W.fnOf "_law_purse" "_law_purse" (defArgs s_law_purse) (defBody s_law_purse) (defScope s_law_purse) .none kV1 dc1 pm1 an1 cd1 ct1), sl1⟩) (c1 : PySem.W.codeIn K cd1 "_law_purse" = true) (k1 : PySem.W.keepIn K (.ref f1) = true)
    (a2 : PySem.W.nsIn K mainGlobals "_law_coin" = some (some (.ref f2))) (l2 : K.lookup f2 = some ⟨oc2, od2, .func (PySem.W.fnOf "_law_coin" "_law_coin" (defArgs s_law_coin) (defBody s_law_coin) (defScope s_law_coin) .none kV2 dc2 pm2 an2 cd2 ct2), sl2⟩) (c2 : PySem.W.codeIn K cd2 "_law_coin" = true) (k2 : PySem.W.keepIn K (.ref f2) = true)
    (a3 : PySem.W.nsIn K mainGlobals "_law_names" = some (some (.ref f3))) (l3 : K.lookup f3 = some ⟨oc3, od3, .func (PySem.W.fnOf "_law_names" "_law_names" (defArgs s_law_names) (defBody s_law_names) (defScope s_law_names) .none kV3 dc3 pm3 an3 cd3 ct3), sl3⟩) (c3 : PySem.W.codeIn K cd3 "_law_names" = true) (k3 : PySem.W.keepIn K (.ref f3) = true)
    (a4 : PySem.W.nsIn K mainGlobals "is_whole" = some (some (.ref f4))) (l4 : K.lookup f4 = some ⟨oc4, od4, .func (PySem.W.fnOf "is_whole" "is_whole" (defArgs s_is_whole) (defBody s_is_whole) (defScope s_is_whole) .none kV4 dc4 pm4 an4 cd4 ct4), sl4⟩) (c4 : PySem.W.codeIn K cd4 "is_whole" = true) (k4 : PySem.W.keepIn K (.ref f4) = true)
    (a5 : PySem.W.nsIn K mainGlobals "is_price" = some (some (.ref f5))) (l5 : K.lookup f5 = some ⟨oc5, od5, .func (PySem.W.fnOf "is_price" "is_price" (defArgs s_is_price) (defBody s_is_price) (defScope s_is_price) .none kV5 dc5 pm5 an5 cd5 ct5), sl5⟩) (c5 : PySem.W.codeIn K cd5 "is_price" = true) (k5 : PySem.W.keepIn K (.ref f5) = true)
    (a6 : PySem.W.nsIn K mainGlobals "is_amount" = some (some (.ref f6))) (l6 : K.lookup f6 = some ⟨oc6, od6, .func (PySem.W.fnOf "is_amount" "is_amount" (defArgs s_is_amount) (defBody s_is_amount) (defScope s_is_amount) .none kV6 dc6 pm6 an6 cd6 ct6), sl6⟩) (c6 : PySem.W.codeIn K cd6 "is_amount" = true) (k6 : PySem.W.keepIn K (.ref f6) = true)
    (a7 : PySem.W.nsIn K mainGlobals "is_name" = some (some (.ref f7))) (l7 : K.lookup f7 = some ⟨oc7, od7, .func (PySem.W.fnOf "is_name" "is_name" (defArgs s_is_name) (defBody s_is_name) (defScope s_is_name) .none kV7 dc7 pm7 an7 cd7 ct7), sl7⟩) (c7 : PySem.W.codeIn K cd7 "is_name" = true) (k7 : PySem.W.keepIn K (.ref f7) = true)
    (a8 : PySem.W.nsIn K mainGlobals "first_wrong" = some (some (.ref f8))) (l8 : K.lookup f8 = some ⟨oc8, od8, .func (PySem.W.fnOf "first_wrong" "first_wrong" (defArgs s_first_wrong) (defBody s_first_wrong) (defScope s_first_wrong) .none kV8 dc8 pm8 an8 cd8 ct8), sl8⟩) (c8 : PySem.W.codeIn K cd8 "first_wrong" = true) (k8 : PySem.W.keepIn K (.ref f8) = true)
    (a9 : PySem.W.nsIn K mainGlobals "shows_enough" = some (some (.ref f9))) (l9 : K.lookup f9 = some ⟨oc9, od9, .func (PySem.W.fnOf "shows_enough" "shows_enough" (defArgs s_shows_enough) (defBody s_shows_enough) (defScope s_shows_enough) .none kV9 dc9 pm9 an9 cd9 ct9), sl9⟩) (c9 : PySem.W.codeIn K cd9 "shows_enough" = true) (k9 : PySem.W.keepIn K (.ref f9) = true)
    (a10 : PySem.W.nsIn K mainGlobals "wrong_together" = some (some (.ref f10))) (l10 : K.lookup f10 = some ⟨oc10, od10, .func (PySem.W.fnOf "wrong_together" "wrong_together" (defArgs s_wrong_together) (defBody s_wrong_together) (defScope s_wrong_together) .none kV10 dc10 pm10 an10 cd10 ct10), sl10⟩) (c10 : PySem.W.codeIn K cd10 "wrong_together" = true) (k10 : PySem.W.keepIn K (.ref f10) = true)
    (a11 : PySem.W.nsIn K mainGlobals "wrong_part" = some (some (.ref f11))) (l11 : K.lookup f11 = some ⟨oc11, od11, .func (PySem.W.fnOf "wrong_part" "wrong_part" (defArgs s_wrong_part) (defBody s_wrong_part) (defScope s_wrong_part) .none kV11 dc11 pm11 an11 cd11 ct11), sl11⟩) (c11 : PySem.W.codeIn K cd11 "wrong_part" = true) (k11 : PySem.W.keepIn K (.ref f11) = true)
    (a12 : PySem.W.nsIn K mainGlobals "_law_parts" = some (some (.ref f12))) (l12 : K.lookup f12 = some ⟨oc12, od12, .func (PySem.W.fnOf "_law_parts" "_law_parts" (defArgs s_law_parts) (defBody s_law_parts) (defScope s_law_parts) .none kV12 dc12 pm12 an12 cd12 ct12), sl12⟩) (c12 : PySem.W.codeIn K cd12 "_law_parts" = true) (k12 : PySem.W.keepIn K (.ref f12) = true)
    (a13 : PySem.W.nsIn K mainGlobals "_law_text" = some (some (.ref f13))) (l13 : K.lookup f13 = some ⟨oc13, od13, .func (PySem.W.fnOf "_law_text" "_law_text" (defArgs s_law_text) (defBody s_law_text) (defScope s_law_text) .none kV13 dc13 pm13 an13 cd13 ct13), sl13⟩) (c13 : PySem.W.codeIn K cd13 "_law_text" = true) (k13 : PySem.W.keepIn K (.ref f13) = true)
    (a14 : PySem.W.nsIn K mainGlobals "law" = some (some (.ref f14))) (l14 : K.lookup f14 = some ⟨oc14, od14, .func (PySem.W.fnOf "law" "law" (defArgs s_law) (defBody s_law) (defScope s_law) .none kV14 dc14 pm14 an14 cd14 ct14), sl14⟩) (c14 : PySem.W.codeIn K cd14 "law" = true) (k14 : PySem.W.keepIn K (.ref f14) = true)
    (z0 : PySem.W.nsIn K mainGlobals "len" = some none)
    (z1 : PySem.W.nsIn K mainGlobals "max" = some none)
    (z2 : PySem.W.nsIn K mainGlobals "min" = some none)
    (z3 : PySem.W.nsIn K mainGlobals "range" = some none)
    (z4 : PySem.W.nsIn K mainGlobals "bool" = some none)
    (z5 : PySem.W.nsIn K mainGlobals "isinstance" = some none)
    (z6 : PySem.W.nsIn K mainGlobals "int" = some none)
    (z7 : PySem.W.nsIn K mainGlobals "str" = some none)
    (z8 : PySem.W.nsIn K mainGlobals "all" = some none)
    {t0 : Tok} (gl_0 : PySem.W.nsIn K mainGlobals "HIGHEST_PRICE" = some (some (.int 1000000 t0)))
    {t1 : Tok} (gl_1 : PySem.W.nsIn K mainGlobals "HIGHEST_AMOUNT" = some (some (.int 1000000000 t1)))
    {t2 : Tok} (gl_2 : PySem.W.nsIn K mainGlobals "LONGEST_NAME" = some (some (.int 8 t2)))
    {t3 : Tok} (gl_3 : PySem.W.nsIn K mainGlobals "BUY" = some (some (.str "buy" t3)))
    {t4 : Tok} (gl_4 : PySem.W.nsIn K mainGlobals "SELL" = some (some (.str "sell" t4)))
    {t5 : Tok} (gl_5 : PySem.W.nsIn K mainGlobals "REST" = some (some (.str "rest" t5)))
    {t6 : Tok} (gl_6 : PySem.W.nsIn K mainGlobals "NOW" = some (some (.str "now" t6)))
    {t7 : Tok} (gl_7 : PySem.W.nsIn K mainGlobals "WHOLE" = some (some (.str "whole" t7)))
    {t8 : Tok} (gl_8 : PySem.W.nsIn K mainGlobals "ONLY" = some (some (.str "only" t8)))
    {t9 : Tok} (gl_9 : PySem.W.nsIn K mainGlobals "OLD" = some (some (.str "old" t9)))
    {t10 : Tok} (gl_10 : PySem.W.nsIn K mainGlobals "NEW" = some (some (.str "new" t10)))
    {t11 : Tok} (gl_11 : PySem.W.nsIn K mainGlobals "BOTH" = some (some (.str "both" t11)))
    {t12 : Tok} (gl_12 : PySem.W.nsIn K mainGlobals "LESS" = some (some (.str "less" t12)))
    {t13 : Tok} (gl_13 : PySem.W.nsIn K mainGlobals "MOST_PARTS" = some (some (.int 20 t13)))
    (aC : PySem.W.nsIn K mainGlobals "Order" = some (some (.ref C)))
    (pg : PySem.W.plainGet K C Str.empty = true)
    (hdC : PySem.W.hasDictIn K C = true)
    (po : PySem.W.plainOver K C = true)
    (sa : PySem.W.findIn K (.ref C) "__setattr__" = some (some (.builtin "object.__setattr__")))
    (mkC : PySem.W.makesIn K C = true)
    (kcC : PySem.W.keepIn K (.ref C) = true)
    (no_owner : PySem.W.findIn K (.ref C) "owner" = some none)
    (no_thing : PySem.W.findIn K (.ref C) "thing" = some none)
    (no_side : PySem.W.findIn K (.ref C) "side" = some none)
    (no_amount : PySem.W.findIn K (.ref C) "amount" = some none)
    (no_price : PySem.W.findIn K (.ref C) "price" = some none)
    (no_shown : PySem.W.findIn K (.ref C) "shown" = some none)
    (no_stop : PySem.W.findIn K (.ref C) "stop" = some none)
    (no_life : PySem.W.findIn K (.ref C) "life" = some none)
    (no_guard : PySem.W.findIn K (.ref C) "guard" = some none)
    (aI : PySem.W.findIn K (.ref C) "__init__" = some (some (.ref fI)))
    (iI : PySem.W.isFn K (.ref fI) = true)
    (lI : K.lookup fI = some ⟨ocI, odI, .func (PySem.W.fnOf "__init__" "Order.__init__" (defArgs s_Order_init) (defBody s_Order_init) (defScope s_Order_init) .none (.ref DI) dcI pmI anI cdI ctI), slI⟩)
    (cI : PySem.W.codeIn K cdI "Order.__init__" = true)
    (kI : PySem.W.keepIn K (.ref fI) = true)
    (dP : PySem.W.nsIn K DI "price" = some (some .none))
    (aS : PySem.W.findIn K (.ref C) "__str__" = some (some (.ref fS)))
    (iS : PySem.W.isFn K (.ref fS) = true)
    (lS : K.lookup fS = some ⟨ocS, odS, .func (PySem.W.fnOf "__str__" "Order.__str__" (defArgs s_Order_str) (defBody s_Order_str) (defScope s_Order_str) .none kVS dcS pmS anS cdS ctS), slS⟩)
    (cS : PySem.W.codeIn K cdS "Order.__str__" = true)
    (kS : PySem.W.keepIn K (.ref fS) = true)
    : ∃ fd : FuncData, (∀ (s : Shared) (v : Value), BindsTo s fd ⟨[v], []⟩ [("script", v)]) ∧ ∀ base : Heap, K.In base → base.Ns mainGlobals mg → FnOk l.prog w K mg base CX0 6 fa fd ["script"] (spLaw K) := by
  have e := hfa.symm.trans (PySem.W.mg_of X G a14)
  cases e
  have T : Txt mg := ⟨PySem.W.mg_none_of X G z0, PySem.W.mg_none_of X G z1, PySem.W.mg_none_of X G z2, PySem.W.mg_none_of X G z3, PySem.W.mg_none_of X G z4, PySem.W.mg_none_of X G z5, PySem.W.mg_none_of X G z6, PySem.W.mg_none_of X G z7, PySem.W.mg_none_of X G z8, ⟨_, PySem.W.mg_of X G gl_0⟩, ⟨_, PySem.W.mg_of X G gl_1⟩, ⟨_, PySem.W.mg_of X G gl_2⟩, ⟨_, PySem.W.mg_of X G gl_3⟩, ⟨_, PySem.W.mg_of X G gl_4⟩, ⟨_, PySem.W.mg_of X G gl_5⟩, ⟨_, PySem.W.mg_of X G gl_6⟩, ⟨_, PySem.W.mg_of X G gl_7⟩, ⟨_, PySem.W.mg_of X G gl_8⟩, ⟨_, PySem.W.mg_of X G gl_9⟩, ⟨_, PySem.W.mg_of X G gl_10⟩, ⟨_, PySem.W.mg_of X G gl_11⟩, ⟨_, PySem.W.mg_of X G gl_12⟩, ⟨_, PySem.W.mg_of X G gl_13⟩⟩
  have F1 := fun_mk (st := s_law_purse) l1 c1 k1
  have b1 := F1.binds (ps := ["script", "k"]) fun _ _ _ _ _ _ us hl => match us, hl with | [_, _], _ => rfl
  have F2 := fun_mk (st := s_law_coin) l2 c2 k2
  have b2 := F2.binds (ps := ["purse", "many"]) fun _ _ _ _ _ _ us hl => match us, hl with | [_, _], _ => rfl
  have F3 := fun_mk (st := s_law_names) l3 c3 k3
  have b3 := F3.binds (ps := ["purse", "many"]) fun _ _ _ _ _ _ us hl => match us, hl with | [_, _], _ => rfl
  have F4 := fun_mk (st := s_is_whole) l4 c4 k4
  have b4 := F4.binds (ps := ["told"]) fun _ _ _ _ _ _ us hl => match us, hl with | [_], _ => rfl
  have F5 := fun_mk (st := s_is_price) l5 c5 k5
  have b5 := F5.binds (ps := ["told"]) fun _ _ _ _ _ _ us hl => match us, hl with | [_], _ => rfl
  have F6 := fun_mk (st := s_is_amount) l6 c6 k6
  have b6 := F6.binds (ps := ["told"]) fun _ _ _ _ _ _ us hl => match us, hl with | [_], _ => rfl
  have F7 := fun_mk (st := s_is_name) l7 c7 k7
  have b7 := F7.binds (ps := ["told"]) fun _ _ _ _ _ _ us hl => match us, hl with | [_], _ => rfl
  have F8 := fun_mk (st := s_first_wrong) l8 c8 k8
  have b8 := F8.binds (ps := ["parts"]) fun _ _ _ _ _ _ us hl => match us, hl with | [_], _ => rfl
  have F9 := fun_mk (st := s_shows_enough) l9 c9 k9
  have b9 := F9.binds (ps := ["shown", "amount"]) fun _ _ _ _ _ _ us hl => match us, hl with | [_, _], _ => rfl
  have F10 := fun_mk (st := s_wrong_together) l10 c10 k10
  have b10 := F10.binds (ps := ["order"]) fun _ _ _ _ _ _ us hl => match us, hl with | [_], _ => rfl
  have F11 := fun_mk (st := s_wrong_part) l11 c11 k11
  have b11 := F11.binds (ps := ["order"]) fun _ _ _ _ _ _ us hl => match us, hl with | [_], _ => rfl
  have F12 := fun_mk (st := s_law_parts) l12 c12 k12
  have b12 := F12.binds (ps := ["purse"]) fun _ _ _ _ _ _ us hl => match us, hl with | [_], _ => rfl
  have F13 := fun_mk (st := s_law_text) l13 c13 k13
  have b13 := F13.binds (ps := ["parts"]) fun _ _ _ _ _ _ us hl => match us, hl with | [_], _ => rfl
  have F14 := fun_mk (st := s_law) l14 c14 k14
  refine ⟨PySem.W.fnOf "law" "law" (defArgs s_law) (defBody s_law) (defScope s_law) .none kV14 dc14 pm14 an14 cd14 ct14, fun s v => .of_eq rfl, fun base _ _ => ?_⟩
  have C1 : Cal l.prog w K mg base 1 "_law_purse" ["script", "k"] (spPurse K) := ⟨f1, _, ok_purse F1 T, PySem.W.mg_of X G a1, k1, b1⟩
  have C2 : Cal l.prog w K mg base 1 "_law_coin" ["purse", "many"] (spCoin) := ⟨f2, _, ok_coin F2, PySem.W.mg_of X G a2, k2, b2⟩
  have C3 : Cal l.prog w K mg base 2 "_law_names" ["purse", "many"] (spNames) := ⟨f3, _, ok_names F3 T C2, PySem.W.mg_of X G a3, k3, b3⟩
  have C4 : Cal l.prog w K mg base 1 "is_whole" ["told"] (spWhole K) := ⟨f4, _, ok_whole F4 T, PySem.W.mg_of X G a4, k4, b4⟩
  have C5 : Cal l.prog w K mg base 2 "is_price" ["told"] (spRange 1 1000000) := ⟨f5, _, ok_price F5 T C4, PySem.W.mg_of X G a5, k5, b5⟩
  have C6 : Cal l.prog w K mg base 2 "is_amount" ["told"] (spRange 1 1000000000) := ⟨f6, _, ok_amount F6 T C4, PySem.W.mg_of X G a6, k6, b6⟩
  have C7 : Cal l.prog w K mg base 1 "is_name" ["told"] (spName) := ⟨f7, _, ok_name F7 T, PySem.W.mg_of X G a7, k7, b7⟩
  have C8 : Cal l.prog w K mg base 1 "first_wrong" ["parts"] (spFirst K) := ⟨f8, _, ok_first F8, PySem.W.mg_of X G a8, k8, b8⟩
  have C9 : Cal l.prog w K mg base 1 "shows_enough" ["shown", "amount"] (spEnough) := ⟨f9, _, ok_enough F9 T, PySem.W.mg_of X G a9, k9, b9⟩
  have O : OTxt K mg C := ⟨⟨pg, hdC, po, sa⟩, no_owner, no_thing, no_side, no_amount, no_price, no_shown, no_stop, no_life, no_guard, PySem.W.mg_of X G aC⟩
  have C10 : Cal l.prog w K mg base 2 "wrong_together" ["order"] (spWell C) := ⟨f10, _, ok_together F10 T O C9, PySem.W.mg_of X G a10, k10, b10⟩
  have C11 : Cal l.prog w K mg base 3 "wrong_part" ["order"] (spWell C) := ⟨f11, _, ok_part F11 T O C8 C7 C6 C5 C10, PySem.W.mg_of X G a11, k11, b11⟩
  have C12 : Cal l.prog w K mg base 3 "_law_parts" ["purse"] (spParts) := ⟨f12, _, ok_parts F12 C2 C3, PySem.W.mg_of X G a12, k12, b12⟩
  have C13 : Cal l.prog w K mg base 1 "_law_text" ["parts"] (spLawText) := ⟨f13, _, ok_text F13 T, PySem.W.mg_of X G a13, k13, b13⟩
  have FI : FunD K "__init__" "Order.__init__" (defArgs s_Order_init) (defBody s_Order_init) (defScope s_Order_init) [] [("price", .non)] fI _ := ⟨⟨ocI, odI, .none, .ref DI, dcI, pmI, anI, cdI, ctI, slI, rfl, lI, cI, .inl ⟨rfl, rfl⟩, .inr ⟨DI, rfl, fun q hq => by rw [List.mem_singleton.mp hq]; exact ⟨_, dP, rfl⟩⟩⟩, kI⟩
  obtain ⟨mv, bI⟩ := FI.kbinds0 (ps := ["self", "owner", "thing", "side", "amount", "price", "shown", "stop", "life", "guard"]) 5 ["price", "shown", "stop", "life", "guard"] [] (fun us _ ws => us ++ ws) (by simp) (fun q hq => by cases hq) (fun r1 _ r3 => r1.append r3) (fun D doc pm an cdv ct us mv ws h1 h2 h3 => match us, ws, h1, h3 with | [_, _, _, _, _], [_, _, _, _, _], _, _ => by first | rfl | with_unfolding_all rfl | kernel_rfl)
  have FS := fun_mk (st := s_Order_str) lS cS kS
  have bS := FS.binds (ps := ["self"]) fun _ _ _ _ _ _ us hl => match us, hl with | [_], _ => rfl
  exact ok_law F14 T O ⟨mkC, aI, iI, kcC⟩ (ok_order_init FI O C11) bI aS iS (ok_order_str FS T O) bS C1 C12 C13
theorem walk {l : PySem.W.OpenLaw} {q : Program} {loose : List Str} {XP : (Str → Option Value) → Heap → Prop} {YP : World → Heap → Prop} {d : DefRec} {K : Params → PySem.W.Frag} (hn : l.most = some 63) (hdf : d.params.defaults = [])
    (hY : ∀ (w : World) (h : Heap), YP w h → (K w.params).In h)
    (F : ∀ (w : World) (mg : Str → Option Value) (fa : Addr) (h : Heap), (K w.params).In h → h.Ns mainGlobals mg → mg d.name = some (.ref fa) →
      ∃ fd : FuncData, (∀ (s : Shared) (u : Value), BindsTo s fd ⟨[u], []⟩ [("script", u)]) ∧ ∀ base : Heap, (K w.params).In base → base.Ns mainGlobals mg → FnOk l.prog w (K w.params) mg base CX0 6 fa fd ["script"] (spLaw (K w.params))) :
    PySem.W.WalkO q loose XP YP l.row.toRowW d [] (fun f vs => PySem.call f vs) :=
  L2.walk_of (n := 63) (k := 6) (x := "script") (CX := fun _ => CX0) (sp := fun w => spLaw (K w.params)) hn (by decide) hdf ⟨rfl, by decide, by decide⟩ hY F (fun _ _ a ns hl _ hS => ⟨a, ns, rfl, hS, hl, fun _ => rfl⟩) fun _ _ _ _ _ z => z
end Rh
open PySem PySem.W PyProof.Rows
set_option maxRecDepth 100000 in
set_option maxHeartbeats 0 in
theorem PySem.Challenge.cw_ringhall_k04_orders_written_holds : PySem.Challenge.rw_ringhall_k04_orders_written.Holds := by
  w_on; o_law; k_head; (case hw => w_witness2)
  k_fill
  refine Rh.walk (l := PySem.Challenge.rw_ringhall_k04_orders_written) rfl rfl (fun w h Y => PySem.W.kIn_of Y) ?F
  case F =>
    intro w mg fa h KX G hmg
    refine' Rh.all_mk KX G hmg ?a1 ?l1 ?c1 ?k1 ?a2 ?l2 ?c2 ?k2 ?a3 ?l3 ?c3 ?k3 ?a4 ?l4 ?c4 ?k4 ?a5 ?l5 ?c5 ?k5 ?a6 ?l6 ?c6 ?k6 ?a7 ?l7 ?c7 ?k7 ?a8 ?l8 ?c8 ?k8 ?a9 ?l9 ?c9 ?k9 ?a10 ?l10 ?c10 ?k10 ?a11 ?l11 ?c11 ?k11 ?a12 ?l12 ?c12 ?k12 ?a13 ?l13 ?c13 ?k13 ?a14 ?l14 ?c14 ?k14 ?z0 ?z1 ?z2 ?z3 ?z4 ?z5 ?z6 ?z7 ?z8 ?gl_0 ?gl_1 ?gl_2 ?gl_3 ?gl_4 ?gl_5 ?gl_6 ?gl_7 ?gl_8 ?gl_9 ?gl_10 ?gl_11 ?gl_12 ?gl_13 ?aC ?pg ?hdC ?po ?sa ?mkC ?kcC ?no_owner ?no_thing ?no_side ?no_amount ?no_price ?no_shown ?no_stop ?no_life ?no_guard ?aI ?iI ?lI ?cI ?kI ?dP ?aS ?iS ?lS ?cS ?kS
    (case a1 => k_is)
    (case l1 => k_is)
    (case c1 => k_is)
    (case k1 => k_is)
    (case a2 => k_is)
    (case l2 => k_is)
    (case c2 => k_is)
    (case k2 => k_is)
    (case a3 => k_is)
    (case l3 => k_is)
    (case c3 => k_is)
    (case k3 => k_is)
    (case a4 => k_is)
    (case l4 => k_is)
    (case c4 => k_is)
    (case k4 => k_is)
    (case a5 => k_is)
    (case l5 => k_is)
    (case c5 => k_is)
    (case k5 => k_is)
    (case a6 => k_is)
    (case l6 => k_is)
    (case c6 => k_is)
    (case k6 => k_is)
    (case a7 => k_is)
    (case l7 => k_is)
    (case c7 => k_is)
    (case k7 => k_is)
    (case a8 => k_is)
    (case l8 => k_is)
    (case c8 => k_is)
    (case k8 => k_is)
    (case a9 => k_is)
    (case l9 => k_is)
    (case c9 => k_is)
    (case k9 => k_is)
    (case a10 => k_is)
    (case l10 => k_is)
    (case c10 => k_is)
    (case k10 => k_is)
    (case a11 => k_is)
    (case l11 => k_is)
    (case c11 => k_is)
    (case k11 => k_is)
    (case a12 => k_is)
    (case l12 => k_is)
    (case c12 => k_is)
    (case k12 => k_is)
    (case a13 => k_is)
    (case l13 => k_is)
    (case c13 => k_is)
    (case k13 => k_is)
    (case a14 => k_is)
    (case l14 => k_is)
    (case c14 => k_is)
    (case k14 => k_is)
    (case z0 => k_is)
    (case z1 => k_is)
    (case z2 => k_is)
    (case z3 => k_is)
    (case z4 => k_is)
    (case z5 => k_is)
    (case z6 => k_is)
    (case z7 => k_is)
    (case z8 => k_is)
    (case gl_0 => k_is)
    (case gl_1 => k_is)
    (case gl_2 => k_is)
    (case gl_3 => k_is)
    (case gl_4 => k_is)
    (case gl_5 => k_is)
    (case gl_6 => k_is)
    (case gl_7 => k_is)
    (case gl_8 => k_is)
    (case gl_9 => k_is)
    (case gl_10 => k_is)
    (case gl_11 => k_is)
    (case gl_12 => k_is)
    (case gl_13 => k_is)
    (case aC => k_is)
    (case pg => k_is)
    (case hdC => k_is)
    (case po => k_is)
    (case sa => k_is)
    (case mkC => k_is)
    (case kcC => k_is)
    (case no_owner => k_is)
    (case no_thing => k_is)
    (case no_side => k_is)
    (case no_amount => k_is)
    (case no_price => k_is)
    (case no_shown => k_is)
    (case no_stop => k_is)
    (case no_life => k_is)
    (case no_guard => k_is)
    (case aI => k_is)
    (case iI => k_is)
    (case lI => k_is)
    (case cI => k_is)
    (case kI => k_is)
    (case dP => k_is)
    (case aS => k_is)
    (case iS => k_is)
    (case lS => k_is)
    (case cS => k_is)
    (case kS => k_is)


