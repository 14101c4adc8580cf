import PyProof.Rows.All
import Wide.All
import OpenK.AllK
import Wide.FinOn
import HandS.ForMost
import HandS.IsInst
import HandS.Wide
import HandS.Codes
import HandS.Walk
import HandS.Deep
import HandS.Lambda
import HandS.SortKw
import KE.SortKeyHeap
import KE.SortLaws
import KE.KLam
import HandS.EndBits
import HandS.EndTab
import HandS.Zip
import PySem.Challenge.RW_ringhall_k05_rows_ranked
set_option Elab.async false
set_option linter.all false
set_option maxRecDepth 100000
set_option exponentiation.threshold 2000
namespace Rh
open PySem L2
def topS (i : Nat) : Stmt := PySem.Challenge.pw_ringhall_k05_rows_ranked.main.body.getD i (.Pass ⟨0, 0, 0, 0⟩)
/-! ### the purse -/
def Pu (H : Hp) (p : Addr) (n : Int) : Prop := ∃ own seed cnt : Int, H p = some (.lst [.int own, .int seed, .int cnt]) ∧ 0 ≤ own ∧ 0 ≤ seed ∧ seed < 2 ^ 63 ∧ 0 ≤ cnt ∧ cnt ≤ n
def Keep (p : Addr) (H H' : Hp) : Prop := ∀ b o, b ≠ p → H b = some o → H' b = some o
theorem Keep.refl (p : Addr) (H : Hp) : Keep p H H := fun _ _ _ h => h
theorem Keep.trans {p : Addr} {H H1 H2 : Hp} (a : Keep p H H1) (b : Keep p H1 H2) : Keep p H H2 := fun c o n h => b c o n (a c o n h)
theorem Keep.same {p : Addr} {H H' : Hp} (s : Same H H') : Keep p H H' := fun c o _ h => s c o h
theorem Same.keep {p : Addr} {H0 H H' : Hp} (s : Same H0 H) (k : Keep p H H') (n : H0 p = none) : Same H0 H' := fun b o h => k b o (ne_of_none h n) (s b o h)
theorem Same.new {H : Hp} {p : Addr} {o : HO} (h : H p = none) : Same H (upd H p o) := fun a u e => by
  rw [upd_ne (ne_of_none e h)]
  exact e
theorem Pu.same {H H' : Hp} {p : Addr} {n : Int} (u : Pu H p n) (s : Same H H') : Pu H' p n := by
  obtain ⟨a, b, c, h, r⟩ := u
  exact ⟨a, b, c, s _ _ h, r⟩
theorem Pu.mono {H : Hp} {p : Addr} {n m : Int} (u : Pu H p n) (h : n ≤ m) : Pu H p m := by
  obtain ⟨a, b, c, h1, h2, h3, h4, h5, h6⟩ := u
  exact ⟨a, b, c, h1, h2, h3, h4, h5, by omega⟩

def spPurse (K : PySem.W.Frag) : Sp := fun vs H Q _ => ∃ (a : Addr) (ns : List Int) (k : Int), vs = [.ref a, .int k] ∧ SqL K H a (ns.map V.int) ∧ ns.length ≤ 63 ∧ 0 ≤ k ∧ k < 64 ∧ ∀ p H', H p = none → Same H H' → Pu H' p 0 → Q (.ref p) H'
def spCoin : Sp := fun vs H Q _ => ∃ (p : Addr) (many n : Int), vs = [.ref p, .int many] ∧ Pu H p n ∧ n < 2 ^ 30 ∧ 1 ≤ many ∧ many < 2 ^ 300 ∧
  ∀ r H', 0 ≤ r → r < many → Pu H' p (n + 1) → Keep p H H' → Q (.int r) H'

/-- a def that stands under its name and keeps its promise -/
def Cal (P : Program) (w : World) (K : PySem.W.Frag) (mg : Str → Option Value) (base : Heap) (k : Nat) (x : Str) (ps : List Str) (sp : Sp) : Prop :=
  ∃ (f : Addr) (fd : FuncData), FnOk P w K mg base CX0 k f fd ps sp ∧ mg x = some (.ref f) ∧ PySem.W.keepIn K (.ref f) = true ∧ Binds K fd ps []

abbrev primesL : List V := [.int 2147483489, .int 2147483477, .int 2147483423, .int 2147483399, .int 2147483353, .int 2147483323, .int 2147483269, .int 2147483249]
theorem prime_at {i : Int} (h0 : 0 ≤ i) (h8 : i < 8) : ∃ v : Int, atI primesL i = some (.int v) ∧ 2147483249 ≤ v ∧ v ≤ 2147483489 := by
  have h : i = 0 ∨ i = 1 ∨ i = 2 ∨ i = 3 ∨ i = 4 ∨ i = 5 ∨ i = 6 ∨ i = 7 := by omega
  rcases h with h | h | h | h | h | h | h | h <;> subst h <;> exact ⟨_, rfl, by decide, by decide⟩

theorem yesC {σ : L2.St} {H : Hp} {A B : Hp → Prop} (h : A H) : tYes σ H (fun b H3 => if b = true then A H3 else B H3) := by
  show (if true = true then A H else B H)
  rw [if_pos rfl]
  exact h

structure Txt (mg : Str → Option Value) : Prop where
  b_len : mg "len" = none
  b_max : mg "max" = none
  b_min : mg "min" = none
  b_range : mg "range" = none
  b_bool : mg "bool" = none
  b_isinstance : mg "isinstance" = none
  b_int : mg "int" = none
  b_all : mg "all" = none
  b_list : mg "list" = none
  b_tuple : mg "tuple" = none
  b_zip : mg "zip" = none
  b_sorted : mg "sorted" = none
  mg_BUY : ∃ t, mg "BUY" = some (.str "buy" t)
  mg_SELL : ∃ t, mg "SELL" = some (.str "sell" t)
/-! ### sorted(xs, key=lambda row: (row[3], row[7])), and (-row[3], row[7]) -/
def lamArgs (p : Pos) : Arguments := { posonlyargs := [], args := [{ arg := "row", annotation := none, pos := p }], vararg := none, kwonlyargs := [], kw_defaults := [], kwarg := none, defaults := [] }
def lamScope : Scope := { kind := .function, names := [("row", .local)], isGenerator := false, isCoroutine := false }
def rowAt (k : Int) (p1 p2 p3 : Pos) : Expr := .Subscript (.Name "row" p1) (.Constant (.int k) 0 p2) p3
def keyE (neg : Bool) (p1 p2 p3 p4 p5 p6 p7 p8 : Pos) : Expr := .Tuple [if neg then .UnaryOp .USub (rowAt 3 p1 p2 p3) p4 else rowAt 3 p1 p2 p3, rowAt 7 p5 p6 p7] 0 p8
section
variable {prog : Program} {w : World} {A : Around} {E : Value → Shared → Prop} {s : Shared}
theorem rowAt_ok {q : Str} {L f c' t : Addr} {m : Str → Option Value} {items : Array Value} {k : Int} {j : Nat} {x : Value} {p1 p2 p3 : Pos} {Q : Value → Shared → Prop} (hn : s.heap.Ns L m) (hm : m "row" = some (.ref t)) (ht : PyProof.Rows.IsTup s.heap t items) (h0 : 0 ≤ k) (h63 : k < 2 ^ 63)
    (hj : seqIndex? k items.size = some j) (hx : items[j]? = some x) (h : ∀ tk, Q x { s with toks := tk }) : wpAny (model prog w) A (eval (rowAt k p1 p2 p3) (PySem.W.envX q lamScope L f (.ref c') [])) Q E s := by
  refine PyProof.Rows.Subscript_ (wpAny_Name (wpAny_loadName_local rfl rfl hn hm ?_) (by decide))
  refine wpAny_Constant_int ?_
  exact PyProof.Rows.subscriptTail_builtinR (x := x) (PyProof.Rows.IsTup.typeIs ht) PySem.F.slot_tuple_getitem.lookup
    (PyProof.Rows.getItem_tuple (j := j) (Q := fun r s' => r = x ∧ Q r s') ht (by omega) h63 hj hx ⟨rfl, h _⟩) rfl
def key1 (neg : Bool) (i : Int) : Int := if neg = true then -i else i
theorem keyE_ok {neg : Bool} {q : Str} {L f c' t : Addr} {m : Str → Option Value} {items : Array Value} {i j : Int} {ti tj : Tok} {p1 p2 p3 p4 p5 p6 p7 p8 : Pos} {Q : Value → Shared → Prop} (hn : s.heap.Ns L m) (hm : m "row" = some (.ref t)) (ht : PyProof.Rows.IsTup s.heap t items) (hz : items.size = 8)
    (h3 : items[3]? = some (.int i ti)) (h7 : items[7]? = some (.int j tj))
    (h : ∀ tk u, Q (.ref s.heap.objs.size) { s with heap := s.heap.push { cls := .type "tuple", data := .seq #[.int (key1 neg i) u, .int j tj] }, toks := tk }) :
    wpAny (model prog w) A (eval (keyE neg p1 p2 p3 p4 p5 p6 p7 p8) (PySem.W.envX q lamScope L f (.ref c') [])) Q E s := by
  refine wpAny_Tuple_spliced ?_
  have last : ∀ {tk : Nat} {R : List Value → Shared → Prop}, (∀ tk', R [.int j tj] { s with toks := tk' }) →
      wpAny (model prog w) A (spliced (backTo p8 (starEach [rowAt 7 p5 p6 p7] (PySem.W.envX q lamScope L f (.ref c') [])))) R E { s with toks := tk } := fun {tk R} hR => by
    show wpAny _ _ (spliced ((false, eval (rowAt 7 p5 p6 p7) (PySem.W.envX q lamScope L f (.ref c') [])) :: backTo p8 (starEach [] (PySem.W.envX q lamScope L f (.ref c') [])))) _ _ _
    refine Calls.spliced_cons (rowAt_ok (s := { s with toks := tk }) (j := 7) hn hm ht (by decide) (by decide) (by rw [hz]; rfl) h7 fun tk2 => ?_)
    exact Calls.spliced_nil (hR _)
  cases neg with
  | true =>
    show wpAny _ _ (spliced ((false, eval (.UnaryOp .USub (rowAt 3 p1 p2 p3) p4) (PySem.W.envX q lamScope L f (.ref c') [])) :: backTo p8 (starEach [rowAt 7 p5 p6 p7] (PySem.W.envX q lamScope L f (.ref c') [])))) _ _ _
    refine Calls.spliced_cons (PyProof.Rows.UnaryOp_ (rowAt_ok (j := 3) hn hm ht (by decide) (by decide) (by rw [hz]; rfl) h3 fun tk1 => PyProof.Rows.neg_int ?_))
    exact last fun tk' => ⟨by show 2 ≤ sizeLine; decide, h _ _⟩
  | false =>
    show wpAny _ _ (spliced ((false, eval (rowAt 3 p1 p2 p3) (PySem.W.envX q lamScope L f (.ref c') [])) :: backTo p8 (starEach [rowAt 7 p5 p6 p7] (PySem.W.envX q lamScope L f (.ref c') [])))) _ _ _
    refine Calls.spliced_cons (rowAt_ok (j := 3) hn hm ht (by decide) (by decide) (by rw [hz]; rfl) h3 fun tk1 => ?_)
    exact last fun tk' => ⟨by show 2 ≤ sizeLine; decide, h _ _⟩
/-- the lambda, called with a row -/
theorem lam_key {neg : Bool} {q : Str} {f c' t : Addr} {pm ctv : Value} {items : Array Value} {i j : Int} {ti tj : Tok} {p0 p1 p2 p3 p4 p5 p6 p7 p8 : Pos} (hd : A.depth < recursionLimit) (hlim : s.heap.NoLimit)
    (hf : s.heap.get? f = some (PySem.W.kla_obj "<lambda>" q (lamArgs p0) (keyE neg p1 p2 p3 p4 p5 p6 p7 p8) lamScope [] pm c' ctv)) (hrec : s.heap.CodeRec (.ref c') q) (ht : PyProof.Rows.IsTup s.heap t items) (hz : items.size = 8)
    (h3 : items[3]? = some (.int i ti)) (h7 : items[7]? = some (.int j tj)) :
    wpAny (model prog w) A (call (.ref f) [.ref t]) (PySem.W.KeyPure (.tuple [.int (key1 neg i), .int j]) s) (fun _ _ => False) s := by
  refine wpAny_call (PySem.W.kla_callFunE hd hf rfl rfl rfl rfl hrec ?_)
  have hb : bindArgs (PySem.W.kla_fn "<lambda>" q (lamArgs p0) (keyE neg p1 p2 p3 p4 p5 p6 p7 p8) lamScope [] pm (.ref c') ctv) ⟨[.ref t], []⟩ = pure [(("row" : Str), Value.ref t)] := by first | rfl | with_unfolding_all rfl | kernel_rfl
  rw [hb]
  refine wpAny_pure (wpAny_newFunctionEnv (scope := lamScope) (by decide +kernel) (fun y hy => by rw [List.mem_singleton.mp hy]; rfl) (fun h₁ hns hsb => ⟨hlim.fresh _ hsb, ?_⟩) rfl)
  show codeAny _ _ (.expr (keyE neg p1 p2 p3 p4 p5 p6 p7 p8) (PySem.W.envX q lamScope s.heap.objs.size f (.ref c') [])) _ _
  have kp : ∀ b o, s.heap.get? b = some o → h₁.get? b = some o := fun b o e => hsb.extBut b o (Nat.ne_of_lt (Heap.lt_size e)) (Heap.get?_push_of_some _ e)
  refine PySem.W.kla_codeExpr ?_
  refine keyE_ok (items := items) (i := i) (j := j) hns rfl (ht.keeps kp) hz h3 h7 fun tk u => ?_
  have kp2 : ∀ b o, s.heap.get? b = some o → (h₁.push { cls := .type "tuple", data := .seq #[.int (key1 neg i) u, .int j tj] } : Heap).get? b = some o := fun b o e => Heap.get?_push_of_some _ (kp b o e)
  refine ⟨_, _, rfl, kp2, ?_⟩
  exact Reads.tuple (Heap.get?_push_size _ rfl) rfl rfl (.cons (.int _ _) (.cons (.int _ _) .nil))
end
def rowLe (neg : Bool) (kk : V → Int × Int) : V → V → Bool := fun p q => decide (key1 neg (kk p).1 < key1 neg (kk q).1 ∨ (key1 neg (kk p).1 = key1 neg (kk q).1 ∧ (kk p).2 ≤ (kk q).2))
theorem extN_L {K : PySem.W.Frag} {H H' : Hp} {a : Addr} {xs : List V} (e : LamX.ExtN H H') (h : SqL K H a xs) : SqL K H' a xs := by
  rcases h with (h | ⟨o, h⟩) | h
  · exact .inl (.inl (e _ _ h fun ps z => by cases z))
  · exact .inl (.inr ⟨o, e _ _ h fun ps z => by cases z⟩)
  · exact .inr h
theorem extN_T {K : PySem.W.Frag} {H H' : Hp} {a : Addr} {xs : List V} (e : LamX.ExtN H H') (h : SqT K H a xs) : SqT K H' a xs := by
  rcases h with (h | ⟨o, h⟩) | h
  · exact .inl (.inl (e _ _ h fun ps z => by cases z))
  · exact .inl (.inr ⟨o, e _ _ h fun ps z => by cases z⟩)
  · exact .inr h
theorem each_of : ∀ {xs : List V} {us : List Value}, Vals xs us → PySem.W.EachIs (fun v x => RelV x v) us xs
  | _, _, .nil => .nil
  | _, _, .cons r t => .cons r (each_of t)
theorem vals_of : ∀ {us : List Value} {xs : List V}, PySem.W.EachIs (fun v x => RelV x v) us xs → Vals xs us
  | _, _, .nil => .nil
  | _, _, .cons r t => .cons r (vals_of t)
/-- what a row's lambda asks of the rows, what is told -/
def tSortLam (K : PySem.W.Frag) (T : List (Addr × Str)) (neg : Bool) (te : TE) : TE := fun σ H Q => te σ H fun x H1 => ∃ (a : Addr) (xs : List V) (kk : V → Int × Int), x = .ref a ∧ SqL K H1 a xs ∧
  (∀ y ∈ xs, ∃ t ws, y = .ref t ∧ SqT K H1 t ws ∧ ws.length = 8 ∧ ws[3]? = some (.int (kk y).1) ∧ ws[7]? = some (.int (kk y).2)) ∧ LamX.Tabs T H1 ∧
  ∀ H2 p, LamX.ExtN H1 H2 → LamX.Tabs T H2 → H2 p = none → Q (.ref p) (upd H2 p (.lst (xs.mergeSort (rowLe neg kk))))
theorem pe_sortLam {X : Cx} {T : List (Addr × Str)} {c P : Addr} {neg : Bool} {e : Expr} {te : TE} {p pos lpos kpos p0 p1 p2 p3 p4 p5 p6 p7 p8 : Pos} (hg : Gl X "sorted") (hm : X.mg "sorted" = none) (TB : LamX.TabB X.base X.mg c P) (hcode : X.env.code = .ref c)
    (hmT : (P, X.env.qual ++ "<lambda>") ∈ T) (hu : ∀ p ∈ T, p.1 = P → p.2 = X.env.qual ++ "<lambda>") (hr : Room 1 X.A) (he : PE X e te)
    (hst : backTo pos (starEach [e] X.env) = (false, eval e X.env) :: backTo pos (starEach [] X.env) := by rfl) (hpl : (backTo pos (starEach [e] X.env)).any (·.1) = false := by rfl) :
    PE X (.Call (.Name "sorted" p) [e] [⟨some "key", .Lambda (lamArgs p0) (keyE neg p1 p2 p3 p4 p5 p6 p7 p8) lamScope lpos, kpos⟩] pos) (tSortLam X.K T neg te) := by
  refine ⟨fun pins s σ H Q I h => ?_⟩
  refine wpAny_Call_Name_kw (ld_blt I hg hm (by decide +kernel : bootBuiltins "sorted" = some (.builtin "sorted")) ?_ (by decide) (by decide))
  refine PyProof.Rows.callWith_kw (kws := [⟨some "key", .Lambda (lamArgs p0) (keyE neg p1 p2 p3 p4 p5 p6 p7 p8) lamScope lpos, kpos⟩]) ?_ hst hpl rfl rfl
  rw [hst]
  refine Calls.spliced_cons (thn (he.run pins s σ H _ I h) fun u s1 ⟨x, H1, I1, r1, q1⟩ => Calls.spliced_nil ?_)
  obtain ⟨a, xs, kk, rfl, hs, hk, hT, q⟩ := q1
  obtain rfl : u = Value.ref a := r1
  show wpAny _ _ (evalAll ((do let v ← eval (.Lambda (lamArgs p0) (keyE neg p1 p2 p3 p4 p5 p6 p7 p8) lamScope lpos) X.env; standAt pos; pure v) :: [])) _ _ s1
  refine wpAny_evalAll_cons (wpAny_bind (LamX.lam_make2 I1 TB hcode hmT hu hT rfl (fun y hy e => by rw [List.mem_singleton.mp hy] at e; cases e) fun f c' pm ctv H2 s2 I2 eN T2 hf hfn hfr hco => wpAny_bind (wpAny_standAt (wpAny_pure ?_))))
  refine wpAny_evalAll_nil ?_
  show wpAny _ _ (call (.builtin "sorted") [.ref a] [("key", .ref f)]) _ _ s2
  obtain ⟨its, rv, hl, hz⟩ := I2.list (extN_L eN hs)
  have hun := hr.un
  have hdp := hr.dp
  have hrec : s2.heap.CodeRec (.ref c') (X.env.qual ++ "<lambda>") := by
    obtain ⟨⟨oc, vs, t, h1, h2, h3⟩, _⟩ := I2.hok c' _ hco
    exact ⟨c', oc, vs, t, rfl, h1, h2, h3⟩
  refine PySem.W.sorted_key_data (β := V) (R := fun v x => RelV x v) (b := false) (bs := xs) (vs := its) (fun y => .tuple [.int (key1 neg (kk y).1), .int (kk y).2]) hl.isList (each_of rv) ?_ ?_ hz ?_ (PyProof.Rows.ksk_s1 _ _) (fun _ => PyProof.Rows.ksk_l1 _ _) (fun x => PyProof.Rows.ksk_t1 f x) ?_ ?_
  · intro d hd d' hd'
    obtain ⟨y, _, rfl⟩ := List.mem_map.mp hd
    obtain ⟨y', _, rfl⟩ := List.mem_map.mp hd'
    rfl
  · refine .inl fun d hd => ?_
    obtain ⟨y, _, rfl⟩ := List.mem_map.mp hd
    exact ⟨_, _, rfl⟩
  · intro y hy
    have e : (PyData.tuple [.int (key1 neg (kk y).1), .int (kk y).2]).depth ≤ 10 := by
      simp [PyData.depth, PyData.depthAll]
    omega
  · intro v y hv hy h tk keep
    obtain ⟨t, ws, rfl, ht, hlen, h3, h7⟩ := hk y hy
    obtain rfl : v = Value.ref t := hv
    obtain ⟨its2, rv2, pl, hz2⟩ := I2.tuple (extN_T eN ht)
    obtain ⟨u3, e3, ru3⟩ := rv2.get h3
    obtain ⟨u7, e7, ru7⟩ := rv2.get h7
    obtain ⟨t3, rfl⟩ := ru3
    obtain ⟨t7, rfl⟩ := ru7
    exact lam_key (s := { s2 with heap := h, toks := tk }) (items := its2.toArray) (by show X.A.depth < _; omega) (I2.nolimit.keeps keep) (keep _ _ hf) (hrec.keeps keep) (pl.keeps keep) (by rw [List.size_toArray, ← rv2.length, hlen]) (by simpa using e3) (by simpa using e7)
  · intro out cc h' tk keep fresh hget hlen each
    have e2 : PySem.W.dataLe false (fun y : V => PyData.tuple [.int (key1 neg (kk y).1), .int (kk y).2]) = rowLe neg kk := PySem.W.dataLe_ii (fun y => key1 neg (kk y).1) (fun y => (kk y).2)
    rw [e2] at each
    refine ⟨.ref _, upd H2 (s2.heap.objs.size + 1) (.lst (xs.mergeSort (rowLe neg kk))), I2.laid (t' := tk) keep (Nat.le_succ _) ⟨?_, out, cc, vals_of each, hget⟩, rfl, q H2 _ eN T2 (I2.hok.fresh (Nat.le_succ _))⟩
    rw [List.length_mergeSort]
    exact hz

section
variable {P : Program} {w : World} {K : PySem.W.Frag} {mg : Str → Option Value} {base : Heap}
abbrev s_law_purse : Stmt := topS 5
theorem sc_law_purse : FnScope ["script", "k", "cell", "own"] ["script", "k"] (defScope s_law_purse) := ⟨rfl, rfl, rfl, by decide +kernel, rfl, by decide +kernel, by decide +kernel⟩
theorem ok_purse {f : Addr} {fd : FuncData} (F : Fun K "_law_purse" "_law_purse" s_law_purse f fd) (T : Txt mg) : FnOk P w K mg base CX0 1 f fd ["script", "k"] (spPurse K) := by
  refine F.ok sc_law_purse (fun vs H Q E h => ?_) (fun cdv A outer s H vs Q E hr h => ?_)
  · obtain ⟨a, ns, k, rfl, _⟩ := h
    rfl
  · obtain ⟨a, ns, k, rfl, hS, hlen, hk0, hk1, q⟩ := h
    refine ⟨_, (pss_cons (ps_set (i := 2) sc_law_purse.nd rfl (Or.inl rfl) (pe_op op_add (pe_op op_mul pe_int (pv 1)) pe_int))
          (pss_cons (ps_if (pt_cmpR op_lt (pv 1) (pe_callB call_len_seq (by rfl) T.b_len PySem.boot_len (pa_cons (pv 0) pa_nil)) (nomark _)) (pss_one (ps_set (i := 2) sc_law_purse.nd rfl (Or.inl rfl) (pe_ix ix_list (pv 0) (pv 1) (fun _ _ => rfl)))) pss_nil)
          (pss_cons (ps_set (i := 3) sc_law_purse.nd rfl (Or.inl rfl) pe_int)
          (pss_cons (ps_if (pt_cmpR op_ge (pv 2) (pe_op op_pow pe_int pe_int) (nomark _)) (pss_one (ps_set (i := 3) sc_law_purse.nd rfl (Or.inl rfl) (pe_op op_sub (pv 2) (pe_op op_pow pe_int pe_int)))) pss_nil)
          (pss_one (ps_ret (pe_lst (pa_cons (pv 3) (pa_cons (pe_op op_add (pe_op op_mod (pv 2) pe_int) (pe_op op_mul pe_int (pv 1))) (pa_cons pe_int pa_nil)))))))))), ?_⟩
    have fin : ∀ cell own : Int, 0 ≤ own → ∀ p, H p = none → Q (.ref p) (upd H p (.lst [.int own, .int (cell % 4611686018427387847 + 53 * k), .int 0])) := fun cell own ho p np =>
      q p _ np (Same.new np) ⟨own, _, 0, upd_same, ho, by omega, by omega, by omega, by omega⟩
    have tail : ∀ cell : Int, ∀ σ : St, σ = [some (.ref a), some (.int k), some (.int cell), none] → True := fun _ _ _ => trivial
    refine ⟨_, rfl, _, _, rfl, rfl, .inl ⟨by decide, by decide⟩, _, _, rfl, rfl, ?_⟩
    refine ⟨_, rfl, _, rfl, _, _, rfl, .inl hS, _, _, rfl, rfl, _, rfl, ite2 (fun c => ?_) (fun c => ?_)⟩
    · have c1 : k < (ns.length : Int) := by
        have c2 := of_decide_eq_true c
        rw [List.length_map] at c2
        exact c2
      have c3 : (ns.map V.int)[k.toNat]? = some (V.int (ns.getD k.toNat 0)) := by
        have c4 : k.toNat < ns.length := by omega
        rw [List.getElem?_map, List.getElem?_eq_getElem c4, List.getD_eq_getElem?_getD, List.getElem?_eq_getElem c4]
        rfl
      have c5 : atI (ns.map V.int) k = some (V.int (ns.getD k.toNat 0)) := by
        have c6 := atI_nat c3
        rw [Int.toNat_of_nonneg hk0] at c6
        exact c6
      refine ⟨_, rfl, _, rfl, a, _, _, _, rfl, rfl, hS, c5, ?_⟩
      refine ⟨_, rfl, _, _, rfl, rfl, ⟨by decide, by decide, by decide⟩, _, _, rfl, rfl, _, rfl, ite2 (fun d => ?_) (fun d => ?_)⟩
      · refine ⟨_, rfl, _, _, rfl, rfl, ⟨by decide, by decide, by decide⟩, _, _, rfl, rfl, ?_⟩
        refine ⟨_, rfl, _, rfl, _, _, rfl, rfl, (by show (0 : Int) < 4611686018427387847; decide), _, rfl, _, _, rfl, rfl, .inl ⟨by decide, by decide⟩, _, _, rfl, rfl, (by show 3 ≤ sizeLine; decide), fun p np => fin _ _ ?_ p np⟩
        have d1 := of_decide_eq_true d
        exact Int.sub_nonneg_of_le d1
      · refine ⟨_, rfl, _, rfl, _, _, rfl, rfl, (by show (0 : Int) < 4611686018427387847; decide), _, rfl, _, _, rfl, rfl, .inl ⟨by decide, by decide⟩, _, _, rfl, rfl, (by show 3 ≤ sizeLine; decide), fun p np => fin _ _ (by decide) p np⟩
    · refine ⟨_, rfl, _, _, rfl, rfl, ⟨by decide, by decide, by decide⟩, _, _, rfl, rfl, _, rfl, ite2 (fun d => ?_) (fun d => ?_)⟩
      · refine ⟨_, rfl, _, _, rfl, rfl, ⟨by decide, by decide, by decide⟩, _, _, rfl, rfl, ?_⟩
        refine ⟨_, rfl, _, rfl, _, _, rfl, rfl, (by show (0 : Int) < 4611686018427387847; decide), _, rfl, _, _, rfl, rfl, .inl ⟨by decide, by decide⟩, _, _, rfl, rfl, (by show 3 ≤ sizeLine; decide), fun p np => fin _ _ ?_ p np⟩
        have d1 := of_decide_eq_true d
        exact Int.sub_nonneg_of_le d1
      · refine ⟨_, rfl, _, rfl, _, _, rfl, rfl, (by show (0 : Int) < 4611686018427387847; decide), _, rfl, _, _, rfl, rfl, .inl ⟨by decide, by decide⟩, _, _, rfl, rfl, (by show 3 ≤ sizeLine; decide), fun p np => fin _ _ (by decide) p np⟩
abbrev s_law_coin : Stmt := topS 6
theorem sc_law_coin : FnScope ["purse", "many", "digit", "primes", "prime", "one", "two"] ["purse", "many"] (defScope s_law_coin) := ⟨rfl, rfl, rfl, by decide +kernel, rfl, by decide +kernel, by decide +kernel⟩
theorem ok_coin {f : Addr} {fd : FuncData} (F : Fun K "_law_coin" "_law_coin" s_law_coin f fd) : FnOk P w K mg base CX0 1 f fd ["purse", "many"] spCoin := by
  refine F.ok sc_law_coin (fun vs H Q E h => ?_) (fun cdv A outer s H vs Q E hr h => ?_)
  · obtain ⟨p, many, n, rfl, _⟩ := h
    rfl
  · obtain ⟨p, many, n, rfl, ⟨own, seed, cnt, hp, h1, h2, h3, h4, h5⟩, hn, hm1, hm2, k⟩ := h
    have m0 : (0 : Int) < many := by omega
    have mw : CDivW own many := wide_div m0 (b := 300) (by omega) (by decide) (by decide)
    refine ⟨_, (pss_cons (ps_if (pt_cmpR op_ge (pe_ix ix_list (pv 0) pe_int (fun _ _ => rfl)) (pv 1) (nomark _)) (pss_cons (ps_set (i := 2) sc_law_coin.nd rfl (Or.inl rfl) (pe_op op_mod (pe_ix ix_list (pv 0) pe_int (fun _ _ => rfl)) (pv 1)))
            (pss_cons (ps_asg (pe_op op_fdivW (pe_ix ix_list (pv 0) pe_int (fun _ _ => rfl)) (pv 1)) (pg_sub (pv 0) pe_int set_list))
            (pss_one (ps_ret (pv 2))))) pss_nil)
          (pss_cons (ps_asg (pe_op op_add (pe_ix ix_list (pv 0) pe_int (fun _ _ => rfl)) pe_int) (pg_sub (pv 0) pe_int set_list))
          (pss_cons (ps_set (i := 3) sc_law_coin.nd rfl (Or.inl rfl) (pe_lst (pa_cons pe_int (pa_cons pe_int (pa_cons pe_int (pa_cons pe_int (pa_cons pe_int (pa_cons pe_int (pa_cons pe_int (pa_cons pe_int pa_nil))))))))))
          (pss_cons (ps_set (i := 4) sc_law_coin.nd rfl (Or.inl rfl) (pe_ix ix_list (pv 3) (pe_op op_mod (pe_ix ix_list (pv 0) pe_int (fun _ _ => rfl)) pe_int) (fun _ _ => rfl)))
          (pss_cons (ps_set (i := 5) sc_law_coin.nd rfl (Or.inl rfl) (pe_op op_add (pe_op op_mul (pe_op op_mod (pe_ix ix_list (pv 0) pe_int (fun _ _ => rfl)) (pv 4)) (pe_op op_add (pe_op op_mul pe_int (pe_ix ix_list (pv 0) pe_int (fun _ _ => rfl))) pe_int)) (pe_op op_mul pe_int (pe_ix ix_list (pv 0) pe_int (fun _ _ => rfl)))))
          (pss_cons (ps_set (i := 5) sc_law_coin.nd rfl (Or.inl rfl) (pe_op op_mod (pe_op op_pow (pv 5) pe_int) (pv 4)))
          (pss_cons (ps_set (i := 6) sc_law_coin.nd rfl (Or.inl rfl) (pe_op op_add (pe_op op_add (pe_op op_mul (pv 5) (pv 5)) (pe_op op_mod (pe_ix ix_list (pv 0) pe_int (fun _ _ => rfl)) pe_int)) (pe_ix ix_list (pv 0) pe_int (fun _ _ => rfl))))
          (pss_one (ps_ret (pe_op op_mod (pe_op op_fdivW (pe_op op_mod (pe_op op_pow (pv 6) pe_int) (pe_ix ix_list (pv 3) (pe_op op_mod (pe_op op_add (pe_ix ix_list (pv 0) pe_int (fun _ _ => rfl)) pe_int) pe_int) (fun _ _ => rfl))) pe_int) (pv 1))))))))))), ?_⟩
    refine ⟨_, rfl, p, _, _, _, rfl, rfl, SqL.of hp, rfl, _, rfl, _, _, rfl, rfl, _, rfl, ite2 (fun c => ?_) (fun c => ?_)⟩
    · refine ⟨_, rfl, p, _, _, _, rfl, rfl, SqL.of hp, rfl, _, rfl, _, _, rfl, rfl, m0, ?_⟩
      refine ⟨_, rfl, p, _, _, _, rfl, rfl, SqL.of hp, rfl, _, rfl, _, _, rfl, rfl, mw, _, rfl, p, _, _, 0, rfl, rfl, hp, rfl, ?_⟩
      refine ⟨_, rfl, ?_⟩
      exact k _ _ (Int.emod_nonneg _ (by omega)) (Int.emod_lt_of_pos _ m0) ⟨own / many, seed, cnt, upd_same, Int.ediv_nonneg h1 (by omega), h2, h3, h4, by omega⟩ (fun b o nb hb => by rw [upd_ne nb]; exact hb)
    · -- purse[2] = purse[2] + 1
      refine ⟨_, rfl, p, _, _, _, rfl, rfl, SqL.of hp, rfl, _, _, rfl, rfl, _, rfl, p, _, _, 2, rfl, rfl, hp, rfl, ?_⟩
      obtain ⟨H1, e1⟩ : ∃ H1, H1 = upd H p (.lst [.int own, .int seed, .int (cnt + 1)]) := ⟨_, rfl⟩
      have p1 : H1 p = some (.lst [.int own, .int seed, .int (cnt + 1)]) := by rw [e1]; exact upd_same
      have k1 : Keep p H H1 := fun b o nb hb => by rw [e1, upd_ne nb]; exact hb
      show tSeq _ _ _ _ (upd H p (.lst [.int own, .int seed, .int (cnt + 1)]))
      rw [← e1]
      clear e1
      refine ⟨(by show 8 ≤ sizeLine; decide), fun q nq => ?_⟩
      obtain ⟨H2, e2⟩ : ∃ H2, H2 = upd H1 q (.lst primesL) := ⟨_, rfl⟩
      have q2 : H2 q = some (.lst primesL) := by rw [e2]; exact upd_same
      have s2 : Same H1 H2 := by rw [e2]; exact Same.new nq
      have p2 := s2 _ _ p1
      show tSeq _ _ _ _ (upd H1 q (.lst primesL))
      rw [← e2]
      clear e2
      obtain ⟨pr, a1, a2, a3⟩ := prime_at (i := (cnt + 1) % 8) (by omega) (by omega)
      obtain ⟨pr', b1, b2, b3⟩ := prime_at (i := (cnt + 1 + 3) % 8) (by omega) (by omega)
      have pr0 : (0 : Int) < pr := by omega
      have pr0' : (0 : Int) < pr' := by omega
      refine ⟨_, rfl, _, rfl, p, _, _, _, rfl, rfl, SqL.of p2, rfl, _, _, rfl, rfl, (by show (0 : Int) < 8; decide), q, _, _, _, rfl, rfl, SqL.of q2, a1, ?_⟩
      have x1 : 0 ≤ seed % pr := Int.emod_nonneg _ (by omega)
      have x2 : seed % pr < pr := Int.emod_lt_of_pos _ pr0
      refine ⟨_, rfl, p, _, _, _, rfl, rfl, SqL.of p2, rfl, _, rfl, _, _, rfl, rfl, pr0, _, rfl, p, _, _, _, rfl, rfl, SqL.of p2, rfl, _, _, rfl, rfl, .inl ⟨by decide, by decide⟩, _, _, rfl, rfl, _, _, rfl, rfl, .inl ⟨by omega, by omega⟩, _, rfl, p, _, _, _, rfl, rfl, SqL.of p2, rfl, _, _, rfl, rfl, .inl ⟨by decide, by decide⟩, _, _, rfl, rfl, ?_⟩
      have y1 : 0 ≤ seed % pr * (2 * (cnt + 1) + 5) := Int.mul_nonneg x1 (by omega)
      have y2 : seed % pr * (2 * (cnt + 1) + 5) ≤ 2147483489 * (2 * (cnt + 1) + 5) := Int.mul_le_mul_of_nonneg_right (by omega) (by omega)
      have z1 : 0 ≤ seed % pr * (2 * (cnt + 1) + 5) + 6007 * (cnt + 1) := by omega
      have z2 : seed % pr * (2 * (cnt + 1) + 5) + 6007 * (cnt + 1) < 2 ^ 64 := by omega
      have z3 : (seed % pr * (2 * (cnt + 1) + 5) + 6007 * (cnt + 1)).natAbs < 2 ^ 64 := by omega
      refine ⟨_, rfl, _, _, rfl, rfl, ⟨by decide, by decide, z3⟩, _, rfl, _, _, rfl, rfl, pr0, ?_⟩
      obtain ⟨one2, e2⟩ : ∃ one2, one2 = (seed % pr * (2 * (cnt + 1) + 5) + 6007 * (cnt + 1)) ^ (3 : Int).toNat % pr := ⟨_, rfl⟩
      have w1 : 0 ≤ one2 := e2 ▸ Int.emod_nonneg _ (by omega)
      have w2 : one2 < pr := e2 ▸ Int.emod_lt_of_pos _ pr0
      show tSeq _ _ _ [some (.ref p), some (.int many), none, some (.ref q), some (.int pr), some (.int ((seed % pr * (2 * (cnt + 1) + 5) + 6007 * (cnt + 1)) ^ (3 : Int).toNat % pr)), none] H2
      rw [← e2]
      clear e2
      refine ⟨_, rfl, _, rfl, _, _, rfl, rfl, .inl ⟨by omega, by omega⟩, _, rfl, p, _, _, _, rfl, rfl, SqL.of p2, rfl, _, _, rfl, rfl, (by show (0 : Int) < 1000033; decide), _, _, rfl, rfl, _, rfl, p, _, _, _, rfl, rfl, SqL.of p2, rfl, _, _, rfl, rfl, ?_⟩
      have v1 : 0 ≤ one2 * one2 := Int.mul_nonneg w1 w1
      have v2 : one2 * one2 ≤ 2147483489 * one2 := Int.mul_le_mul_of_nonneg_right (by omega) w1
      have t3 : (one2 * one2 + seed % 1000033 + (cnt + 1)).natAbs < 2 ^ 64 := by omega
      refine ⟨_, rfl, _, _, rfl, rfl, ⟨by decide, by decide, t3⟩, _, rfl, _, rfl, p, _, _, _, rfl, rfl, SqL.of p2, rfl, _, _, rfl, rfl, _, _, rfl, rfl, (by show (0 : Int) < 8; decide), q, _, _, _, rfl, rfl, SqL.of q2, b1, _, _, rfl, rfl, pr0', _, _, rfl, rfl, wide_div (b := 4) (by decide) (by decide) (by decide) (by decide), _, rfl, _, _, rfl, rfl, m0, ?_⟩
      exact k _ _ (Int.emod_nonneg _ (by omega)) (Int.emod_lt_of_pos _ m0) ⟨own, seed, cnt + 1, p2, h1, h2, h3, by omega, by omega⟩ (k1.trans (Keep.same s2))

/-! ### names -/
def lettersS : Str := "abcdefghijklmnopqrstuvwxyz"
theorem letters_cps : lettersS.cps.toList = List.range' 97 26 := by decide +kernel
theorem letters_len : lettersS.length ≤ sizeLine := by
  have h : lettersS.length = 26 := by decide +kernel
  rw [h]
  decide
theorem letter_at {i : Int} (h0 : 0 ≤ i) (h : i < 26) : atI lettersS.cps.toList i = some (97 + i.toNat) := by
  rw [letters_cps]
  have e : (List.range' 97 26)[i.toNat]? = some (97 + i.toNat) := by
    rw [List.getElem?_range' (by omega), Nat.one_mul]
  have k := atI_nat e
  rw [Int.toNat_of_nonneg h0] at k
  exact k
def Letters (s : Str) : Prop := ∀ c ∈ s.cps.toList, 97 ≤ c ∧ c ≤ 122
def NameS (s : Str) : Prop := 1 ≤ s.length ∧ s.length ≤ 8 ∧ Letters s
theorem Str_len (s : Str) : s.length = s.cps.toList.length := by
  show s.cps.size = _
  rw [Array.length_toList]
theorem joinL_nil : ∀ ps : List (List Nat), TL.joinL [] ps = ps.flatten
  | [] => rfl
  | [p] => by simp [TL.joinL]
  | p :: q :: r => by
    have h := joinL_nil (q :: r)
    show p ++ ([] ++ TL.joinL [] (q :: r)) = _
    rw [h]
    rfl
theorem join_tl (ys : List Str) : (Txt.join "" ys).cps.toList = (ys.map fun s => s.cps.toList).flatten := by
  have e : TL.tl (Txt.join "" ys) = TL.joinL (TL.tl "") (ys.map TL.tl) := by
    rw [TL.join_eq, TL.tl_join]
  have e2 : TL.tl ("" : Str) = [] := by decide +kernel
  rw [e2, joinL_nil] at e
  exact e
theorem flat_len : ∀ ys : List Str, (∀ s ∈ ys, s.length = 1) → (ys.map fun s => s.cps.toList).flatten.length = ys.length
  | [], _ => rfl
  | y :: ys, h => by
    have h1 := h y List.mem_cons_self
    have h2 := flat_len ys fun s hs => h s (List.mem_cons_of_mem _ hs)
    rw [Str_len] at h1
    show (y.cps.toList ++ _).length = _
    rw [List.length_append, h1, h2, List.length_cons]
    omega
theorem join_len {ys : List Str} (h : ∀ s ∈ ys, s.length = 1) : (Txt.join "" ys).length = ys.length := by
  rw [Str_len, join_tl, flat_len ys h]
theorem join_letters {ys : List Str} (h : ∀ s ∈ ys, Letters s) : Letters (Txt.join "" ys) := fun c hc => by
  rw [join_tl] at hc
  obtain ⟨l, hl, hcl⟩ := List.mem_flatten.mp hc
  obtain ⟨s, hs, rfl⟩ := List.mem_map.mp hl
  exact h s hs c hcl
theorem sum_ones : ∀ ys : List Str, (∀ s ∈ ys, s.length = 1) → (ys.map (·.length)).sum = ys.length
  | [], _ => rfl
  | y :: ys, h => by
    have h1 := h y List.mem_cons_self
    have h2 := sum_ones ys fun s hs => h s (List.mem_cons_of_mem _ hs)
    show y.length + (ys.map (·.length)).sum = _
    rw [h1, h2, List.length_cons]
    omega
theorem sign_len (c : Nat) : (⟨#[c]⟩ : Str).length = 1 := rfl
theorem sign_letters {c : Nat} (h1 : 97 ≤ c) (h2 : c ≤ 122) : Letters ⟨#[c]⟩ := fun d hd => by
  have e : d = c := by simpa using hd
  omega
theorem name_mk {s : Str} {c : Nat} (h1 : s.length ≤ 7) (h2 : Letters s) (h3 : 97 ≤ c) (h4 : c ≤ 122) : NameS (s ++ ⟨#[c]⟩) := by
  have e : (s ++ (⟨#[c]⟩ : Str)).length = s.length + 1 := by rw [Str.length_append, sign_len]
  refine ⟨by omega, by omega, fun d hd => ?_⟩
  rw [Str.cps_append, Array.toList_append, List.mem_append] at hd
  rcases hd with hd | hd
  · exact h2 d hd
  · exact sign_letters h3 h4 d hd
theorem small_size {n : Nat} (h : n ≤ 100000) : n ≤ sizeLine := Nat.le_trans h (by decide)
def spNames : Sp := fun vs H Q _ => ∃ (p : Addr) (many n : Int), vs = [.ref p, .int many] ∧ Pu H p n ∧ 0 ≤ many ∧ many ≤ 1000 ∧ n + 9 * many < 2 ^ 30 ∧
  ∀ (q : Addr) (ns : List Str) (H' : Hp), H q = none → (ns.length : Int) = many → (∀ s ∈ ns, NameS s) → H' q = some (.lst (ns.map V.str)) → Pu H' p (n + 9 * many) → Keep p H H' → Q (.ref q) H'
abbrev s_law_names : Stmt := topS 7
theorem sc_law_names : FnScope ["purse", "many", "letters", "found", "at", "word", "turn"] ["purse", "many"] (defScope s_law_names) := ⟨rfl, rfl, rfl, by decide +kernel, rfl, by decide +kernel, by decide +kernel⟩
theorem ok_names {f : Addr} {fd : FuncData} (F : Fun K "_law_names" "_law_names" s_law_names f fd) (T : Txt mg) (c_coin : Cal P w K mg base 1 "_law_coin" ["purse", "many"] spCoin) : FnOk P w K mg base CX0 2 f fd ["purse", "many"] spNames := by
  refine F.ok sc_law_names (fun vs H Q E h => ?_) (fun cdv A outer s H vs Q E hr h => ?_)
  · obtain ⟨p, many, n, rfl, _⟩ := h
    rfl
  · obtain ⟨p, many, n, rfl, u, hm0, hm1, hn, k⟩ := h
    obtain ⟨f_coin, fd_coin, G_coin, m_coin, k_coin, b_coin⟩ := c_coin
    refine ⟨_, (pss_cons (ps_set (i := 2) sc_law_names.nd rfl (Or.inr rfl) pe_str)
          (pss_cons (ps_set (i := 3) sc_law_names.nd rfl (Or.inl rfl) (pe_lst pa_nil))
          (pss_cons (ps_for PassesOwn.never rfl (pi_range1 rfl T.b_range (pa_cons (pv 1) pa_nil)) (pg_name (i := 4) sc_law_names.nd rfl (Or.inl rfl))
           (pss_cons (ps_set (i := 5) sc_law_names.nd rfl (Or.inl rfl) (pe_m1 PySem.F.slot_str_join PySem.F.type_str_join mt_join pe_str (pe_lc (own := [("turn", 6)]) (g := gName 6) (tt := tYes) rfl sc_law_names.nd (pi_range1 rfl T.b_range (pa_cons (pe_call G_coin (hr.mono (by decide)) rfl m_coin k_coin b_coin .nil pass0 (pa_cons (pv 0) (pa_cons pe_int pa_nil))) pa_nil)) (blkOk_by (N := ["purse", "many", "letters", "found", "at", "word", "turn"]) (sc := defScope s_law_names) (by decide +kernel)) (fun _ _ _ _ _ => (pg_name (i := 6) sc_law_names.nd rfl (Or.inl rfl))) (fun _ _ _ _ _ => pts_nil) (fun _ _ _ _ _ => (pe_ix ix_str (pv 2) (pe_call G_coin (hr.mono (by decide)) rfl m_coin k_coin b_coin .nil pass0 (pa_cons (pv 0) (pa_cons pe_int pa_nil))) (fun _ _ => rfl))))))
            (pss_one (ps_expr (pe_bm PySem.F.plainAttrs_list PySem.F.slot_list_append PySem.F.type_list_append mt_append (pv 3) (pa_cons (pe_op op_add_str (pv 5) (pe_ix ix_str (pv 2) (pe_op op_mod (pe_op op_add (pv 4) (pe_op op_mul (pe_call G_coin (hr.mono (by decide)) rfl m_coin k_coin b_coin .nil pass0 (pa_cons (pv 0) (pa_cons pe_int pa_nil))) pe_int)) pe_int) (fun _ _ => rfl))) pa_nil))))))
          (pss_one (ps_ret (pv 3)))))), ?_⟩
    refine ⟨Nat.zero_le _, fun q nq => ?_⟩
    have pq : p ≠ q := by
      obtain ⟨_, _, _, e, _⟩ := u
      exact ne_of_none e nq
    have kq : Keep p H (upd H q (.lst [])) := Keep.same (Same.new nq)
    refine ⟨_, rfl, _, rfl, by omega, by omega, for_range (lo := 0) (fun i σ h => ∃ (ns : List Str) (v4 v5 v6 : Option V), σ = [some (.ref p), some (.int many), some (.str lettersS), some (.ref q), v4, v5, v6] ∧ ns.length = i ∧ (∀ s ∈ ns, NameS s) ∧ h q = some (.lst (ns.map V.str)) ∧ Keep p H h ∧ Pu h p (n + 9 * i))
      ⟨[], _, _, _, rfl, rfl, (fun s hs => by cases hs), upd_same, kq, (u.same (Same.new nq)).mono (by omega)⟩ ?_ ?_⟩
    · rintro i σ h hi ⟨ns, v4, v5, v6, rfl, hl, hN, hq, kp, u1⟩
      have hi2 : (i : Int) < many := by
        have : i < many.toNat := hi
        omega
      refine ⟨⟨_, rfl⟩, _, rfl, p, _, _, rfl, u1, by omega, by decide, by decide, fun r h2 ra rb u2 k2 => ?_⟩
      have hq2 := k2 _ _ pq.symm hq
      refine ⟨_, rfl, by omega, by omega, fun D nD => ?_⟩
      have qD : q ≠ D := ne_of_none hq2 nD
      have pD : p ≠ D := by
        obtain ⟨_, _, _, e, _⟩ := u2
        exact ne_of_none e nD
      have kD : Keep p H (upd h2 D (.lst [])) := (kp.trans k2).trans (Keep.same (Same.new nD))
      refine lc_range (lo := 0) (fun j g => ∃ ys : List Str, ys.length = j ∧ (∀ s ∈ ys, s.length = 1) ∧ (∀ s ∈ ys, Letters s) ∧ g D = some (.lst (ys.map V.str)) ∧ g q = some (.lst (ns.map V.str)) ∧ (∀ b o, b ≠ p → b ≠ D → h2 b = some o → g b = some o) ∧ Pu g p (n + 9 * i + 1 + j))
        ⟨[], rfl, (fun s hs => by cases hs), (fun s hs => by cases hs), upd_same, (by rw [upd_ne qD]; exact hq2), (fun b o _ nb e => by rw [upd_ne nb]; exact e), (u2.same (Same.new nD)).mono (by omega)⟩ ?_ ?_
      · rintro j g hj ⟨ys, hy, hy1, hyL, hD, hq3, kp3, u3⟩
        have hj2 : (j : Int) < r := by
          have : j < r.toNat := hj
          omega
        refine ⟨rfl, yesC ⟨_, rfl, _, rfl, p, _, _, rfl, u3, by omega, by decide, by decide, fun r2 g2 r2a r2b u4 k4 => ?_⟩⟩
        have hD2 := k4 _ _ pD.symm hD
        refine ⟨lettersS, _, _, rfl, rfl, letters_len, letter_at r2a r2b, _, hD2, by rw [List.length_map]; exact Nat.lt_of_lt_of_le (show ys.length < 100 by omega) (by decide), ?_⟩
        have uD : ∀ b, b ≠ D → (upd g2 D (.lst (ys.map V.str ++ [.str ⟨#[97 + r2.toNat]⟩]))) b = g2 b := fun b nb => upd_ne nb
        refine ⟨ys ++ [⟨#[97 + r2.toNat]⟩], by rw [List.length_append, hy]; rfl, fun s hs => ?_, fun s hs => ?_, by rw [upd_same, List.map_append]; rfl, by rw [uD _ qD]; exact k4 _ _ pq.symm hq3, fun b o np nb e => by rw [uD _ nb]; exact k4 _ _ np (kp3 b o np nb e), ?_⟩
        · rcases List.mem_append.mp hs with hs | hs
          · exact hy1 s hs
          · rw [List.mem_singleton.mp hs]
            exact sign_len _
        · rcases List.mem_append.mp hs with hs | hs
          · exact hyL s hs
          · rw [List.mem_singleton.mp hs]
            exact sign_letters (by omega) (by omega)
        · obtain ⟨o1, o2, o3, e, r⟩ := u4.mono (show n + 9 * (i : Int) + 1 + j + 1 ≤ n + 9 * (i : Int) + 1 + ((j + 1 : Nat) : Int) by omega)
          exact ⟨o1, o2, o3, by rw [uD _ pD]; exact e, r⟩
      · rintro g ⟨ys, hy, hy1, hyL, hD, hq3, kp3, u3⟩
        have hy7 : ys.length ≤ 7 := by omega
        refine ⟨_, D, ys, rfl, rfl, .inl (SqL.of hD), ?_, ?_⟩
        · rw [sum_ones ys hy1]
          show ys.length + ys.length * 0 ≤ 16777216
          omega
        have wl := join_len hy1
        have wL := join_letters hyL
        refine ⟨_, rfl, .inl ⟨rfl, _, SqL.of hq3⟩, _, rfl, _, rfl, _, rfl, _, rfl, p, _, _, rfl, u3, by omega, by decide, by decide, fun r3 g3 r3a r3b u4 k4 => ?_⟩
        have hq4 := k4 _ _ pq.symm hq3
        refine ⟨_, _, rfl, rfl, .inr ⟨by decide, by decide⟩, _, _, rfl, rfl, _, _, rfl, rfl, (by show (0 : Int) < 26; decide), lettersS, _, _, rfl, rfl, letters_len, letter_at (Int.emod_nonneg _ (by decide)) (Int.emod_lt_of_pos _ (by decide)), _, _, rfl, rfl, ?_, ?_⟩
        · rw [sign_len, wl]
          exact small_size (by omega)
        refine ⟨q, _, _, rfl, rfl, hq4, by rw [List.length_map]; exact Nat.lt_of_lt_of_le (show ns.length < 2000 by omega) (by decide), ?_⟩
        have uq : ∀ b, b ≠ q → (upd g3 q (.lst (ns.map V.str ++ [.str (Txt.join "" ys ++ ⟨#[97 + ((0 + (i : Int) + r3 * 13) % 26).toNat]⟩)]))) b = g3 b := fun b nb => upd_ne nb
        refine ⟨ns ++ [Txt.join "" ys ++ ⟨#[97 + ((0 + (i : Int) + r3 * 13) % 26).toNat]⟩], _, _, _, rfl, by rw [List.length_append, hl]; rfl, fun s hs => ?_, by rw [List.map_append]; exact upd_same, fun b o nb e => ?_, ?_⟩
        · rcases List.mem_append.mp hs with hs | hs
          · exact hN s hs
          · rw [List.mem_singleton.mp hs]
            have z1 : 0 ≤ (0 + (i : Int) + r3 * 13) % 26 := Int.emod_nonneg _ (by decide)
            have z2 : (0 + (i : Int) + r3 * 13) % 26 < 26 := Int.emod_lt_of_pos _ (by decide)
            exact name_mk (by omega) wL (by omega) (by omega)
        · have e1 := kp b o nb e
          have nbq : b ≠ q := ne_of_none e nq
          rw [uq b nbq]
          exact k4 _ _ nb (kp3 b o nb (ne_of_none (k2 _ _ nb e1) nD) (k2 _ _ nb e1))
        · obtain ⟨o1, o2, o3, e, r⟩ := u4.mono (show n + 9 * (i : Int) + 1 + (r.toNat : Int) + 1 ≤ n + 9 * ((i + 1 : Nat) : Int) by omega)
          exact ⟨o1, o2, o3, by rw [uq _ pq]; exact e, r⟩
    · rintro σ h ⟨ns, v4, v5, v6, rfl, hl, hN, hq, kp, u1⟩
      refine ⟨_, rfl, ?_⟩
      have e : (many.toNat : Int) = many := Int.toNat_of_nonneg hm0
      exact k q ns h nq (by omega) hN hq (by rw [e] at u1; exact u1) kp

/-! ### rows -/
def prV : Option Int → V
  | none => .non
  | some i => .int i
structure RV where
  num : Int
  who : Str
  side : Str
  price : Int
  part : Option Int
  left : Int
  seen : Int
  rank : Int
def RV.fs (r : RV) : List V := [.int r.num, .str r.who, .str r.side, .int r.price, prV r.part, .int r.left, .int r.seen, .int r.rank]
def RV.Txt (r : RV) : Prop := (r.side = "buy" ∨ r.side = "sell") ∧ PyData.strOk r.who = true
def RowAt (H : Hp) (g : V → RV) (x : V) : Prop := ∃ t, x = .ref t ∧ H t = some (.tup (g x).fs)
def betterM (r r' : RV) : Bool :=
  if r.side = r'.side then (if r.price = r'.price then decide (r.rank < r'.rank) else (decide (r'.price < r.price) == decide (r.side = "buy"))) else decide (r.side = "buy")
def spBetter : Sp := fun vs H Q _ => ∃ (t u : Addr) (r r' : RV), vs = [.ref t, .ref u] ∧ H t = some (.tup r.fs) ∧ H u = some (.tup r'.fs) ∧ Q (.bl (betterM r r')) H
theorem vstr_ne {a b : Str} : (V.str a = V.str b) ↔ a = b := ⟨fun h => by injection h, fun h => by rw [h]⟩
theorem vint_ne {a b : Int} : (V.int a = V.int b) ↔ a = b := ⟨fun h => by injection h, fun h => by rw [h]⟩
abbrev s_law_better : Stmt := topS 11
theorem sc_law_better : FnScope ["one", "other"] ["one", "other"] (defScope s_law_better) := ⟨rfl, rfl, rfl, by decide +kernel, rfl, by decide +kernel, by decide +kernel⟩
theorem ok_better {f : Addr} {fd : FuncData} (F : Fun K "_law_better" "_law_better" s_law_better f fd) : FnOk P w K mg base CX0 1 f fd ["one", "other"] spBetter := by
  refine F.ok sc_law_better (fun vs H Q E h => ?_) (fun cdv A outer s H vs Q E hr h => ?_)
  · obtain ⟨p, many, n, _, rfl, _⟩ := h
    rfl
  · obtain ⟨t, u, r, r', rfl, ht, hu, k⟩ := h
    refine ⟨_, (pss_cons (ps_if (pt_cmpR op_ne (pe_ix ix_tup (pv 0) pe_int (fun _ _ => rfl)) (pe_ix ix_tup (pv 1) pe_int (fun _ _ => rfl)) (nomark _)) (pss_one (ps_ret (pe_cmpR op_eq (pe_ix ix_tup (pv 0) pe_int (fun _ _ => rfl)) pe_str (nomark _)))) pss_nil)
          (pss_cons (ps_if (pt_cmpR op_ne (pe_ix ix_tup (pv 0) pe_int (fun _ _ => rfl)) (pe_ix ix_tup (pv 1) pe_int (fun _ _ => rfl)) (nomark _)) (pss_one (ps_ret (pe_cmpR op_eq (pe_cmpR op_gt (pe_ix ix_tup (pv 0) pe_int (fun _ _ => rfl)) (pe_ix ix_tup (pv 1) pe_int (fun _ _ => rfl)) (nomark _)) (pe_cmpR op_eq (pe_ix ix_tup (pv 0) pe_int (fun _ _ => rfl)) pe_str (nomark _)) (nomark _)))) pss_nil)
          (pss_one (ps_ret (pe_cmpR op_lt (pe_ix ix_tup (pv 0) pe_int (fun _ _ => rfl)) (pe_ix ix_tup (pv 1) pe_int (fun _ _ => rfl)) (nomark _)))))), ?_⟩
    refine ⟨_, rfl, t, _, _, _, rfl, rfl, SqT.of ht, rfl, _, rfl, u, _, _, _, rfl, rfl, SqT.of hu, rfl, rfl, _, rfl, ite2 (fun c => ?_) (fun c => ?_)⟩
    · have c1 : ¬ r.side = r'.side := fun e => by
        rw [e] at c
        revert c
        simp
      refine ⟨_, rfl, t, _, _, _, rfl, rfl, SqT.of ht, rfl, rfl, ?_⟩
      have e : betterM r r' = decide (V.str r.side = V.str "buy") := by
        unfold betterM
        rw [if_neg c1]
        simp only [vstr_ne]
      rw [e] at k
      exact k
    · have c1 : r.side = r'.side := by
        revert c
        simp [vstr_ne]
      refine ⟨_, rfl, t, _, _, _, rfl, rfl, SqT.of ht, rfl, _, rfl, u, _, _, _, rfl, rfl, SqT.of hu, rfl, rfl, _, rfl, ite2 (fun d => ?_) (fun d => ?_)⟩
      · have d1 : ¬ r.price = r'.price := fun e => by
          rw [e] at d
          revert d
          simp
        refine ⟨_, rfl, t, _, _, _, rfl, rfl, SqT.of ht, rfl, _, rfl, u, _, _, _, rfl, rfl, SqT.of hu, rfl, _, _, rfl, rfl, _, rfl, t, _, _, _, rfl, rfl, SqT.of ht, rfl, rfl, rfl, ?_⟩
        have e : betterM r r' = (decide (r'.price < r.price) == decide (r.side = "buy")) := by
          unfold betterM
          rw [if_pos c1, if_neg d1]
        have e2 : (decide (r'.price < r.price) == decide (r.side = "buy")) = decide (V.bl (decide (r'.price < r.price)) = V.bl (decide (V.str r.side = V.str "buy"))) := by
          simp only [vstr_ne]
          by_cases x : r'.price < r.price <;> by_cases y : r.side = "buy" <;> simp [x, y]
        rw [e, e2] at k
        exact k
      · have d1 : r.price = r'.price := by
          revert d
          simp [vint_ne]
        refine ⟨_, rfl, t, _, _, _, rfl, rfl, SqT.of ht, rfl, _, rfl, u, _, _, _, rfl, rfl, SqT.of hu, rfl, _, _, rfl, rfl, ?_⟩
        have e : betterM r r' = decide (r.rank < r'.rank) := by
          unfold betterM
          rw [if_pos c1, if_pos d1]
        rw [e] at k
        exact k
theorem Pu.ne {h : Hp} {p q : Addr} {m : Int} (u : Pu h p m) (n : h q = none) : q ≠ p := fun e => by
  obtain ⟨_, _, _, e2, _⟩ := u
  rw [e, e2] at n
  cases n
theorem coin_new {h h' : Hp} {p u : Addr} {m : Int} {o : HO} (pu : Pu h p m) (n : h u = none) (k : Keep p (upd h u o) h') : h' u = some o := k _ _ (pu.ne n) upd_same
theorem at2 {x y : V} {r : Int} (h0 : 0 ≤ r) (h : r < 2) : atI [x, y] r = some x ∨ atI [x, y] r = some y := by
  have : r = 0 ∨ r = 1 := by omega
  rcases this with e | e <;> subst e
  · exact .inl rfl
  · exact .inr rfl
theorem at3 {x y z : V} {r : Int} (h0 : 0 ≤ r) (h : r < 3) : atI [x, y, z] r = some x ∨ atI [x, y, z] r = some y ∨ atI [x, y, z] r = some z := by
  have : r = 0 ∨ r = 1 ∨ r = 2 := by omega
  rcases this with e | e | e <;> subst e
  · exact .inl rfl
  · exact .inr (.inl rfl)
  · exact .inr (.inr rfl)
theorem at4i {x y z t : Int} {r : Int} (h0 : 0 ≤ r) (h : r < 4) : ∃ v, atI [V.int x, .int y, .int z, .int t] r = some (.int v) := by
  have : r = 0 ∨ r = 1 ∨ r = 2 ∨ r = 3 := by omega
  rcases this with e | e | e | e <;> subst e <;> exact ⟨_, rfl⟩
/-- what stays and what is there while rows are drawn -/
structure Dr (p : Addr) (H h : Hp) (m : Int) : Prop where
  kp : Keep p H h
  pu : Pu h p m
theorem Dr.coin {p : Addr} {H h h' : Hp} {m m' : Int} (B : Dr p H h m) (k : Keep p h h') (u : Pu h' p m') : Dr p H h' m' := ⟨B.kp.trans k, u⟩
theorem Dr.new {p : Addr} {H h : Hp} {m : Int} {u : Addr} {o : HO} (B : Dr p H h m) (n : h u = none) : Dr p H (upd h u o) m := ⟨B.kp.trans (Keep.same (Same.new n)), B.pu.same (Same.new n)⟩
theorem Dr.mono {p : Addr} {H h : Hp} {m m' : Int} (B : Dr p H h m) (e : m ≤ m') : Dr p H h m' := ⟨B.kp, B.pu.mono e⟩
def spLevel : Sp := fun vs H Q _ => ∃ (p : Addr) (way n : Int), vs = [.ref p, .int way] ∧ Pu H p n ∧ n + 10 < 2 ^ 30 ∧ 0 ≤ way ∧ way < 4 ∧ ∀ r H', Pu H' p (n + 4) → Keep p H H' → Q (.int r) H'
abbrev s_law_level : Stmt := topS 8
theorem sc_law_level : FnScope ["purse", "way"] ["purse", "way"] (defScope s_law_level) := ⟨rfl, rfl, rfl, by decide +kernel, rfl, by decide +kernel, by decide +kernel⟩
theorem ok_level {f : Addr} {fd : FuncData} (F : Fun K "_law_level" "_law_level" s_law_level f fd) (c_coin : Cal P w K mg base 1 "_law_coin" ["purse", "many"] spCoin) : FnOk P w K mg base CX0 2 f fd ["purse", "way"] spLevel := by
  refine F.ok sc_law_level (fun vs H Q E h => ?_) (fun cdv A outer s H vs Q E hr h => ?_)
  · obtain ⟨p, n, _, rfl, _⟩ := h
    rfl
  · obtain ⟨p, way, n, rfl, u, hn, hw0, hw4, k⟩ := h
    obtain ⟨f_coin, fd_coin, G_coin, m_coin, k_coin, b_coin⟩ := c_coin
    refine ⟨_, (pss_one (ps_ret (pe_ix ix_list (pe_lst (pa_cons (pe_op op_add pe_int (pe_call G_coin (hr.mono (by decide)) rfl m_coin k_coin b_coin .nil pass0 (pa_cons (pv 0) (pa_cons pe_int pa_nil)))) (pa_cons (pe_op op_add pe_int (pe_call G_coin (hr.mono (by decide)) rfl m_coin k_coin b_coin .nil pass0 (pa_cons (pv 0) (pa_cons pe_int pa_nil)))) (pa_cons (pe_op op_sub (pe_op op_pow pe_int pe_int) (pe_call G_coin (hr.mono (by decide)) rfl m_coin k_coin b_coin .nil pass0 (pa_cons (pv 0) (pa_cons pe_int pa_nil)))) (pa_cons (pe_op op_add pe_int (pe_call G_coin (hr.mono (by decide)) rfl m_coin k_coin b_coin .nil pass0 (pa_cons (pv 0) (pa_cons (pe_op op_pow pe_int pe_int) pa_nil)))) pa_nil))))) (pv 1) (fun _ _ => rfl)))), ?_⟩
    have B0 : Dr p H H n := ⟨Keep.refl p H, u⟩
    refine ⟨_, rfl, p, _, _, rfl, B0.pu, by omega, by decide, by decide, fun r1 h1 r1a r1b w1 k1 => ⟨_, _, rfl, rfl, ?_⟩⟩
    have B1 := B0.coin k1 w1
    refine ⟨_, rfl, p, _, _, rfl, B1.pu, by omega, by decide, by decide, fun r2 h2 r2a r2b w2 k2 => ⟨_, _, rfl, rfl, ?_⟩⟩
    have B2 := B1.coin k2 w2
    refine ⟨_, _, rfl, rfl, ⟨by decide, by decide, by decide⟩, _, rfl, p, _, _, rfl, B2.pu, by omega, by decide, by decide, fun r3 h3 r3a r3b w3 k3 => ⟨_, _, rfl, rfl, ?_⟩⟩
    have B3 := B2.coin k3 w3
    refine ⟨_, rfl, _, _, rfl, rfl, ⟨by decide, by decide, by decide⟩, p, _, _, rfl, B3.pu, by omega, by decide, by decide, fun r4 h4 r4a r4b w4 k4 => ⟨_, _, rfl, rfl, ?_⟩⟩
    have B4 := B3.coin k4 w4
    refine ⟨(by show 4 ≤ sizeLine; decide), fun u1 nu1 => ?_⟩
    have B5 := B4.new nu1 (o := .lst [.int (1 + r1), .int (500 + r2), .int (10 ^ (6 : Int).toNat - r3), .int (1 + r4)])
    obtain ⟨v, e⟩ := at4i (x := 1 + r1) (y := 500 + r2) (z := 10 ^ (6 : Int).toNat - r3) (t := 1 + r4) hw0 hw4
    exact ⟨_, rfl, u1, _, _, _, rfl, rfl, SqL.of upd_same, e, k _ _ (B5.mono (by omega)).pu B5.kp⟩
/-- the rows so far -/
def Rok (g : V → RV) (xs : List V) (num st : Int) : Prop := (∀ x ∈ xs, (g x).Txt ∧ (g x).num < num ∧ (g x).rank < st) ∧ xs.Pairwise fun x y => (g x).num ≠ (g y).num ∧ (g x).rank ≠ (g y).rank
structure Rb (p fa : Addr) (H h : Hp) (m : Int) (g : V → RV) (xs : List V) (num st : Int) : Prop where
  dr : Dr p H h m
  nf : H fa = none
  np : fa ≠ p
  fl : h fa = some (.lst xs)
  rw : ∀ x ∈ xs, RowAt h g x
  ok : Rok g xs num st
theorem Rb.coin {p fa : Addr} {H h h' : Hp} {m m' : Int} {g : V → RV} {xs : List V} {num st : Int} (B : Rb p fa H h m g xs num st) (k : Keep p h h') (u : Pu h' p m') : Rb p fa H h' m' g xs num st := by
  obtain ⟨_, _, _, e2, _⟩ := B.dr.pu
  refine ⟨B.dr.coin k u, B.nf, B.np, k _ _ B.np B.fl, fun x hx => ?_, B.ok⟩
  obtain ⟨t, e, ht⟩ := B.rw x hx
  refine ⟨t, e, k _ _ (fun e3 => ?_) ht⟩
  rw [e3, e2] at ht
  cases ht
theorem Rb.new {p fa : Addr} {H h : Hp} {m : Int} {g : V → RV} {xs : List V} {num st : Int} {u : Addr} {o : HO} (B : Rb p fa H h m g xs num st) (n : h u = none) : Rb p fa H (upd h u o) m g xs num st := B.coin (Keep.same (Same.new n)) (B.dr.pu.same (Same.new n))
theorem Rb.mono {p fa : Addr} {H h : Hp} {m m' : Int} {g : V → RV} {xs : List V} {num st : Int} (B : Rb p fa H h m g xs num st) (e : m ≤ m') : Rb p fa H h m' g xs num st := ⟨B.dr.mono e, B.nf, B.np, B.fl, B.rw, B.ok⟩
/-- one row more -/
def gMore (g : V → RV) (t : Addr) (r : RV) : V → RV := fun v => if v = .ref t then r else g v
theorem Rb.more {p fa t : Addr} {H h : Hp} {m : Int} {g : V → RV} {xs : List V} {num st : Int} {r : RV} (B : Rb p fa H h m g xs num st) (n : h t = none) (hs : r.Txt) (e1 : r.num = num) (e2 : r.rank = st) :
    Rb p fa H (upd (upd h t (.tup r.fs)) fa (.lst (xs ++ [.ref t]))) m (gMore g t r) (xs ++ [.ref t]) (num + 1) (st + 1) := by
  have tf : t ≠ fa := fun e => by
    have := B.fl
    rw [← e, n] at this
    cases this
  have tp : t ≠ p := B.dr.pu.ne n
  have old : ∀ x ∈ xs, x ≠ .ref t := fun x hx e => by
    obtain ⟨u, e3, hu⟩ := B.rw x hx
    rw [e] at e3
    cases e3
    rw [n] at hu
    cases hu
  have ge : ∀ x ∈ xs, gMore g t r x = g x := fun x hx => if_neg (old x hx)
  have gt : gMore g t r (.ref t) = r := if_pos rfl
  have k1 : ∀ b o, b ≠ fa → h b = some o → (upd (upd h t (.tup r.fs)) fa (.lst (xs ++ [.ref t]))) b = some o := fun b o nb e => by
    rw [upd_ne nb, upd_ne (ne_of_none e n)]
    exact e
  refine ⟨⟨fun b o nb e => k1 b o (ne_of_none e B.nf) (B.dr.kp b o nb e), ?_⟩, B.nf, B.np, upd_same, fun x hx => ?_, fun x hx => ?_, ?_⟩
  · obtain ⟨a, b, c, e3, r3⟩ := B.dr.pu
    exact ⟨a, b, c, k1 _ _ B.np.symm e3, r3⟩
  · rcases List.mem_append.mp hx with hx | hx
    · obtain ⟨u, e3, hu⟩ := B.rw x hx
      refine ⟨u, e3, ?_⟩
      rw [ge x hx]
      refine k1 _ _ (fun e => ?_) hu
      rw [e, B.fl] at hu
      cases hu
    · rw [List.mem_singleton.mp hx]
      refine ⟨t, rfl, ?_⟩
      rw [gt, upd_ne tf, upd_same]
  · rcases List.mem_append.mp hx with hx | hx
    · rw [ge x hx]
      obtain ⟨a, b, c⟩ := B.ok.1 x hx
      exact ⟨a, by omega, by omega⟩
    · rw [List.mem_singleton.mp hx, gt]
      exact ⟨hs, by omega, by omega⟩
  · refine List.pairwise_append.mpr ⟨B.ok.2.imp_of_mem fun {x y} hx hy z => ?_, List.pairwise_singleton _ _, fun x hx y hy => ?_⟩
    · rw [ge x hx, ge y hy]
      exact z
    · rw [List.mem_singleton.mp hy, gt, ge x hx]
      obtain ⟨a, b, c⟩ := B.ok.1 x hx
      exact ⟨by omega, by omega⟩
theorem Rok.mono {g : V → RV} {xs : List V} {a b c d : Int} (h : Rok g xs a b) (e1 : a ≤ c) (e2 : b ≤ d) : Rok g xs c d := ⟨fun x hx => ⟨(h.1 x hx).1, by have := (h.1 x hx).2.1; omega, by have := (h.1 x hx).2.2; omega⟩, h.2⟩
theorem Rb.up {p fa : Addr} {H h : Hp} {m : Int} {g : V → RV} {xs : List V} {a b c d : Int} (B : Rb p fa H h m g xs a b) (e1 : a ≤ c) (e2 : b ≤ d) : Rb p fa H h m g xs c d := ⟨B.dr, B.nf, B.np, B.fl, B.rw, B.ok.mono e1 e2⟩
/-- what the rows are, in any order -/
def RowsOk (H : Hp) (g : V → RV) (xs : List V) : Prop := (∀ x ∈ xs, RowAt H g x ∧ (g x).Txt) ∧ xs.Pairwise fun x y => (g x).num ≠ (g y).num ∧ (g x).rank ≠ (g y).rank
theorem rot_perm (xs : List V) {r : Int} (h0 : 0 ≤ r) : (cutV xs (some r) none ++ cutV xs none (some r)).Perm xs := by
  obtain ⟨j, rfl⟩ : ∃ j : Nat, r = (j : Int) := ⟨r.toNat, (Int.toNat_of_nonneg h0).symm⟩
  have e1 : cutV xs (some (j : Int)) none = xs.drop (min j xs.length) := by
    unfold cutV
    rw [HT.sIx_nat, HT.sIx_none, List.take_of_length_le (by rw [List.length_drop]; omega)]
  have e2 : cutV xs none (some (j : Int)) = xs.take (min j xs.length) := by
    unfold cutV
    rw [HT.sIx_nat, HT.sIx_none, List.drop_zero, Nat.sub_zero]
  rw [e1, e2]
  exact List.perm_append_comm.trans (List.Perm.of_eq (List.take_append_drop _ _))
def spRows : Sp := fun vs H Q _ => ∃ (p q : Addr) (ns : List Str) (many way n : Int), vs = [.ref p, .ref q, .int many, .int way] ∧ Pu H p n ∧ H q = some (.lst (ns.map V.str)) ∧ 1 ≤ ns.length ∧ ns.length ≤ 1000 ∧ (∀ s ∈ ns, PyData.strOk s = true) ∧ 0 ≤ many ∧ many ≤ 1000 ∧ 0 ≤ way ∧ way < 4 ∧ n + 20 * many + 10 < 2 ^ 29 ∧
  ∀ (t a : Addr) (st : Int) (g : V → RV) (xs : List V) (H' : Hp), H' t = some (.tup [.ref a, .int st]) → H' a = some (.lst xs) → H a = none → (xs.length : Int) = many → RowsOk H' g xs → Pu H' p (n + 20 * many + 10) → Keep p H H' → Q (.ref t) H'
abbrev s_law_rows : Stmt := topS 9
theorem sc_law_rows : FnScope ["purse", "names", "many", "way", "found", "number", "stamp", "at", "left", "part", "seen", "who", "side"] ["purse", "names", "many", "way"] (defScope s_law_rows) := ⟨rfl, rfl, rfl, by decide +kernel, rfl, by decide +kernel, by decide +kernel⟩
theorem ok_rows {f : Addr} {fd : FuncData} (F : Fun K "_law_rows" "_law_rows" s_law_rows f fd) (T : Txt mg) (c_coin : Cal P w K mg base 1 "_law_coin" ["purse", "many"] spCoin) (c_level : Cal P w K mg base 2 "_law_level" ["purse", "way"] spLevel) : FnOk P w K mg base CX0 3 f fd ["purse", "names", "many", "way"] spRows := by
  refine F.ok sc_law_rows (fun vs H Q E h => ?_) (fun cdv A outer s H vs Q E hr h => ?_)
  · obtain ⟨p, q, ns, many, way, n, rfl, _⟩ := h
    rfl
  · obtain ⟨p, q, ns, many, way, n, rfl, u, hq, hl1, hl2, hnok, hm0, hm1, hw0, hw4, hn, k⟩ := h
    obtain ⟨f_coin, fd_coin, G_coin, m_coin, k_coin, b_coin⟩ := c_coin
    obtain ⟨f_level, fd_level, G_level, m_level, k_level, b_level⟩ := c_level
    refine ⟨_, (pss_cons (ps_set (i := 4) sc_law_rows.nd rfl (Or.inl rfl) (pe_lst pa_nil))
          (C8.pss_cut (ps_set (i := 5) sc_law_rows.nd rfl (Or.inl rfl) (pe_op op_add (pe_call G_coin (hr.mono (by decide)) rfl m_coin k_coin b_coin .nil pass0 (pa_cons (pv 0) (pa_cons pe_int pa_nil))) (pe_ix ix_list (pe_lst (pa_cons pe_int (pa_cons pe_int (pa_cons (pe_op op_pow pe_int pe_int) pa_nil)))) (pe_call G_coin (hr.mono (by decide)) rfl m_coin k_coin b_coin .nil pass0 (pa_cons (pv 0) (pa_cons pe_int pa_nil))) (fun _ _ => rfl))))
          (C8.pss_cut (ps_set (i := 6) sc_law_rows.nd rfl (Or.inl rfl) (pe_op op_add (pe_call G_coin (hr.mono (by decide)) rfl m_coin k_coin b_coin .nil pass0 (pa_cons (pv 0) (pa_cons pe_int pa_nil))) (pe_ix ix_list (pe_lst (pa_cons pe_int (pa_cons pe_int (pa_cons (pe_op op_pow pe_int pe_int) pa_nil)))) (pe_call G_coin (hr.mono (by decide)) rfl m_coin k_coin b_coin .nil pass0 (pa_cons (pv 0) (pa_cons pe_int pa_nil))) (fun _ _ => rfl))))
          (pss_cons (ps_for PassesOwn.never rfl (pi_range1 rfl T.b_range (pa_cons (pv 2) pa_nil)) (pg_name (i := 7) sc_law_rows.nd rfl (Or.inl rfl))
           (C8.pss_cut (ps_set (i := 8) sc_law_rows.nd rfl (Or.inl rfl) (pe_op op_add pe_int (pe_call G_coin (hr.mono (by decide)) rfl m_coin k_coin b_coin .nil pass0 (pa_cons (pv 0) (pa_cons (pe_ix ix_list (pe_lst (pa_cons pe_int (pa_cons pe_int (pa_cons (pe_op op_pow pe_int pe_int) pa_nil)))) (pe_call G_coin (hr.mono (by decide)) rfl m_coin k_coin b_coin .nil pass0 (pa_cons (pv 0) (pa_cons pe_int pa_nil))) (fun _ _ => rfl)) pa_nil)))))
            (pss_cons (ps_set (i := 9) sc_law_rows.nd rfl (Or.inl rfl) pe_non)
            (pss_cons (ps_set (i := 10) sc_law_rows.nd rfl (Or.inl rfl) (pv 8))
            (C8.pss_cut (ps_if (pt_cmpR op_eq (pe_call G_coin (hr.mono (by decide)) rfl m_coin k_coin b_coin .nil pass0 (pa_cons (pv 0) (pa_cons pe_int pa_nil))) pe_int (nomark _)) (pss_cons (ps_set (i := 9) sc_law_rows.nd rfl (Or.inl rfl) (pe_callB (call_max2 rfl) (by rfl) T.b_max (by decide +kernel) (pa_cons (pe_op op_fdivW (pe_op op_add (pv 8) (pe_ix ix_list (pe_lst (pa_cons pe_int (pa_cons pe_int pa_nil))) (pe_callTy call_int1 (by rfl) T.b_int (by decide +kernel) (pa_cons (pe_cmpR op_gt (pv 7) pe_int (nomark _)) pa_nil)) (fun _ _ => rfl))) (pe_ix ix_list (pe_lst (pa_cons pe_int (pa_cons pe_int pa_nil))) (pe_callTy call_int1 (by rfl) T.b_int (by decide +kernel) (pa_cons (pe_cmpR op_gt (pv 7) pe_int (nomark _)) pa_nil)) (fun _ _ => rfl))) (pa_cons (pe_op op_add pe_int (pe_call G_coin (hr.mono (by decide)) rfl m_coin k_coin b_coin .nil pass0 (pa_cons (pv 0) (pa_cons (pv 8) pa_nil)))) pa_nil))))
              (pss_one (ps_set (i := 10) sc_law_rows.nd rfl (Or.inl rfl) (pe_callB (call_min2 rfl) (by rfl) T.b_min (by decide +kernel) (pa_cons (pv 8) (pa_cons (pe_op op_add pe_int (pe_call G_coin (hr.mono (by decide)) rfl m_coin k_coin b_coin .nil pass0 (pa_cons (pv 0) (pa_cons (pv 9) pa_nil)))) pa_nil)))))) pss_nil)
            (C8.pss_cut (ps_set (i := 11) sc_law_rows.nd rfl (Or.inl rfl) (pe_ix ix_list (pv 1) (pe_call G_coin (hr.mono (by decide)) rfl m_coin k_coin b_coin .nil pass0 (pa_cons (pv 0) (pa_cons (pe_callB call_len_seq (by rfl) T.b_len PySem.boot_len (pa_cons (pv 1) pa_nil)) pa_nil))) (fun _ _ => rfl)))
            (C8.pss_cut (ps_set (i := 12) sc_law_rows.nd rfl (Or.inl rfl) (pe_ix ix_list (pe_lst (pa_cons pe_str (pa_cons pe_str pa_nil))) (pe_call G_coin (hr.mono (by decide)) rfl m_coin k_coin b_coin .nil pass0 (pa_cons (pv 0) (pa_cons pe_int pa_nil))) (fun _ _ => rfl)))
            (C8.pss_cut (ps_expr (pe_bm PySem.F.plainAttrs_list PySem.F.slot_list_append PySem.F.type_list_append mt_append (pv 4) (pa_cons (pe_tup (pa_cons (pv 5) (pa_cons (pv 11) (pa_cons (pv 12) (pa_cons (pe_call G_level (hr.mono (by decide)) rfl m_level k_level b_level .nil pass0 (pa_cons (pv 0) (pa_cons (pv 3) pa_nil))) (pa_cons (pv 9) (pa_cons (pv 8) (pa_cons (pv 10) (pa_cons (pv 6) pa_nil))))))))) pa_nil)))
            (pss_cons (ps_set (i := 5) sc_law_rows.nd rfl (Or.inl rfl) (pe_op op_add (pe_op op_add (pv 5) pe_int) (pe_call G_coin (hr.mono (by decide)) rfl m_coin k_coin b_coin .nil pass0 (pa_cons (pv 0) (pa_cons pe_int pa_nil)))))
            (pss_one (ps_set (i := 6) sc_law_rows.nd rfl (Or.inl rfl) (pe_op op_add (pe_op op_add (pv 6) pe_int) (pe_call G_coin (hr.mono (by decide)) rfl m_coin k_coin b_coin .nil pass0 (pa_cons (pv 0) (pa_cons pe_int pa_nil)))))))))))))))
          (pss_cons (ps_set (i := 7) sc_law_rows.nd rfl (Or.inl rfl) (pe_call G_coin (hr.mono (by decide)) rfl m_coin k_coin b_coin .nil pass0 (pa_cons (pv 0) (pa_cons (pe_op op_add (pv 2) pe_int) pa_nil))))
          (pss_one (ps_ret (pe_tup (pa_cons (pe_op op_cat (pe_slice sl_list (pv 4) (po_some (pv 7)) po_none) (pe_slice sl_list (pv 4) po_none (po_some (pv 7)))) (pa_cons (pv 6) pa_nil)))))))))), ?_⟩
    have qp : q ≠ p := fun e => by
      obtain ⟨_, _, _, e2, _⟩ := u
      rw [e, e2] at hq
      match ns, hl1, hq with
      | x :: ns, _, hq =>
        have := Option.some.inj hq
        cases this
    refine ⟨Nat.zero_le _, fun fa nfa => ?_⟩
    have B0 : ∀ num st : Int, Rb p fa H (upd H fa (.lst [])) n (fun _ => ⟨0, "", "", 0, none, 0, 0, 0⟩) [] num st := fun num st => ⟨⟨Keep.same (Same.new nfa), u.same (Same.new nfa)⟩, nfa, u.ne nfa, upd_same, (fun x hx => (nomatch hx)), ⟨(fun x hx => (nomatch hx)), List.Pairwise.nil⟩⟩
    refine ⟨fun σ h => ∃ number : Int, σ = [some (.ref p), some (.ref q), some (.int many), some (.int way), some (.ref fa), some (.int number), none, none, none, none, none, none, none] ∧ ∀ num st, Rb p fa H h (n + 2) (fun _ => ⟨0, "", "", 0, none, 0, 0, 0⟩) [] num st, ?_, ?_⟩
    · refine ⟨_, rfl, p, _, _, rfl, (B0 0 0).dr.pu, by omega, by decide, by decide, fun r1 h1 r1a r1b w1 k1 => ⟨_, _, rfl, rfl, ⟨by decide, by decide, by decide⟩, (by show 3 ≤ sizeLine; decide), fun u1 nu1 => ?_⟩⟩
      have B1 := fun num st => ((B0 num st).coin k1 w1).new nu1 (o := .lst [.int 0, .int 0, .int (10 ^ (40 : Int).toNat)])
      refine ⟨_, rfl, p, _, _, rfl, (B1 0 0).dr.pu, by omega, by decide, by decide, fun r2 h2 r2a r2b w2 k2 => ?_⟩
      have hu := coin_new ((B0 0 0).coin k1 w1).dr.pu nu1 k2
      obtain ⟨v, hv⟩ : ∃ v : Int, atI [V.int 0, .int 0, .int (10 ^ (40 : Int).toNat)] r2 = some (.int v) := by
        rcases at3 (x := V.int 0) (y := .int 0) (z := .int (10 ^ (40 : Int).toNat)) r2a r2b with e | e | e <;> exact ⟨_, e⟩
      exact ⟨u1, _, _, _, rfl, rfl, SqL.of hu, hv, _, _, rfl, rfl, _, rfl, fun num st => ((B1 num st).coin k2 w2).mono (by omega)⟩
    rintro σ h1 ⟨number, rfl, B1⟩
    refine ⟨fun σ h => ∃ stamp : Int, σ = [some (.ref p), some (.ref q), some (.int many), some (.int way), some (.ref fa), some (.int number), some (.int stamp), none, none, none, none, none, none] ∧ ∀ num st, Rb p fa H h (n + 4) (fun _ => ⟨0, "", "", 0, none, 0, 0, 0⟩) [] num st, ?_, ?_⟩
    · refine ⟨_, rfl, p, _, _, rfl, (B1 0 0).dr.pu, by omega, by decide, by decide, fun r1 h1 r1a r1b w1 k1 => ⟨_, _, rfl, rfl, ⟨by decide, by decide, by decide⟩, (by show 3 ≤ sizeLine; decide), fun u1 nu1 => ?_⟩⟩
      have B2 := fun num st => ((B1 num st).coin k1 w1).new nu1 (o := .lst [.int 0, .int 0, .int (10 ^ (40 : Int).toNat)])
      refine ⟨_, rfl, p, _, _, rfl, (B2 0 0).dr.pu, by omega, by decide, by decide, fun r2 h2 r2a r2b w2 k2 => ?_⟩
      have hu := coin_new ((B1 0 0).coin k1 w1).dr.pu nu1 k2
      obtain ⟨v, hv⟩ : ∃ v : Int, atI [V.int 0, .int 0, .int (10 ^ (40 : Int).toNat)] r2 = some (.int v) := by
        rcases at3 (x := V.int 0) (y := .int 0) (z := .int (10 ^ (40 : Int).toNat)) r2a r2b with e | e | e <;> exact ⟨_, e⟩
      exact ⟨u1, _, _, _, rfl, rfl, SqL.of hu, hv, _, _, rfl, rfl, _, rfl, fun num st => ((B2 num st).coin k2 w2).mono (by omega)⟩
    rintro σ h2 ⟨stamp, rfl, B2⟩
    refine ⟨_, rfl, _, rfl, by omega, by omega, for_range (lo := 0) (fun i σ h => ∃ (g : V → RV) (xs : List V) (number stamp : Int) (v7 v8 v9 v10 v11 v12 : Option V), σ = [some (.ref p), some (.ref q), some (.int many), some (.int way), some (.ref fa), some (.int number), some (.int stamp), v7, v8, v9, v10, v11, v12] ∧ xs.length = i ∧ Rb p fa H h (n + 4 + 16 * i) g xs number stamp)
      ⟨_, [], number, stamp, _, _, _, _, _, _, rfl, rfl, (B2 _ _).mono (by omega)⟩ ?_ ?_⟩
    · rintro i σ h3 hi ⟨g, xs, num, st, v7, v8, v9, v10, v11, v12, rfl, hl, B3⟩
      have hi2 : (i : Int) < many := by
        have : i < many.toNat := hi
        omega
      have nE : n + 4 + 16 * ((i + 1 : Nat) : Int) = n + 4 + 16 * (i : Int) + 16 := by omega
      obtain ⟨m, em⟩ : ∃ m, m = n + 4 + 16 * (i : Int) := ⟨_, rfl⟩
      rw [nE]
      rw [← em] at B3 ⊢
      have hm : m + 100 < 2 ^ 30 := by omega
      refine ⟨fun σ h => ∃ left : Int, σ = [some (.ref p), some (.ref q), some (.int many), some (.int way), some (.ref fa), some (.int num), some (.int st), some (.int (0 + (i : Int))), some (.int left), v9, v10, v11, v12] ∧ (1 ≤ left ∧ left ≤ 1000000000) ∧ Rb p fa H h (m + 2) g xs num st, ?_, ?_⟩
      · refine ⟨_, rfl, _, _, rfl, rfl, ⟨by decide, by decide, by decide⟩, (by show 3 ≤ sizeLine; decide), fun u1 nu1 => ?_⟩
        have B4 := B3.new nu1 (o := .lst [.int 9, .int 200, .int (10 ^ (9 : Int).toNat)])
        refine ⟨_, rfl, p, _, _, rfl, B4.dr.pu, by omega, by decide, by decide, fun r1 h2 r1a r1b w1 k1 => ?_⟩
        have B5 := B4.coin k1 w1
        have hu := coin_new B3.dr.pu nu1 k1
        obtain ⟨v, hv, v1, v2⟩ : ∃ v : Int, atI [V.int 9, .int 200, .int (10 ^ (9 : Int).toNat)] r1 = some (.int v) ∧ 1 ≤ v ∧ v ≤ 1000000000 := by
          rcases at3 (x := V.int 9) (y := .int 200) (z := .int (10 ^ (9 : Int).toNat)) r1a r1b with e | e | e <;> exact ⟨_, e, by decide, by decide⟩
        refine ⟨u1, _, _, _, rfl, rfl, SqL.of hu, hv, p, _, _, rfl, B5.dr.pu, by omega, v1, Int.lt_of_le_of_lt v2 (by decide), fun r2 h3 r2a r2b w2 k2 => ?_⟩
        exact ⟨_, _, rfl, rfl, _, rfl, ⟨by omega, by omega⟩, (B5.coin k2 w2).mono (by omega)⟩
      rintro σ h4 ⟨left, rfl, hleft, B4⟩
      refine ⟨_, rfl, ?_⟩
      refine ⟨fun σ h => ∃ (part : Option Int) (seen : Int), σ = [some (.ref p), some (.ref q), some (.int many), some (.int way), some (.ref fa), some (.int num), some (.int st), some (.int (0 + (i : Int))), some (.int left), some (prV part), some (.int seen), v11, v12] ∧ Rb p fa H h (m + 5) g xs num st, ?_, ?_⟩
      · refine ⟨_, rfl, p, _, _, rfl, B4.dr.pu, by omega, by decide, by decide, fun r1 h5 r1a r1b w1 k1 => ?_⟩
        have B5 := B4.coin k1 w1
        refine ⟨rfl, _, rfl, ite2 (fun c => ?_) (fun c => ?_)⟩
        · refine ⟨_, rfl, (by show 2 ≤ sizeLine; decide), fun u1 nu1 => ?_⟩
          have B6 := B5.new nu1 (o := .lst [.int 19, .int 3])
          obtain ⟨c1, e1, c1a, c1b⟩ : ∃ v : Int, atI [V.int 19, .int 3] (if decide ((0 : Int) < 0 + (i : Int)) = true then 1 else 0) = some (.int v) ∧ 0 ≤ v ∧ v ≤ 19 := by
            split <;> exact ⟨_, rfl, by decide, by decide⟩
          refine ⟨_, rfl, _, _, rfl, rfl, .inr ⟨_, rfl, u1, _, _, _, rfl, rfl, SqL.of upd_same, e1, _, _, rfl, rfl, (by show 2 ≤ sizeLine; decide), fun u2 nu2 => ?_⟩⟩
          have B7 := B6.new nu2 (o := .lst [.int 20, .int 4])
          obtain ⟨c2, e2, c2a, c2b⟩ : ∃ v : Int, atI [V.int 20, .int 4] (if decide ((0 : Int) < 0 + (i : Int)) = true then 1 else 0) = some (.int v) ∧ 1 ≤ v ∧ v ≤ 20 := by
            split <;> exact ⟨_, rfl, by decide, by decide⟩
          refine ⟨_, rfl, _, _, rfl, rfl, .inr ⟨_, rfl, u2, _, _, _, rfl, rfl, SqL.of upd_same, e2, _, _, rfl, rfl, wide_div (b := 8) (by omega) (by omega) (by decide) (by decide), ?_⟩⟩
          refine ⟨_, rfl, _, rfl, p, _, _, rfl, B7.dr.pu, by omega, by omega, by omega, fun r2 h6 r2a r2b w2 k2 => ⟨_, _, rfl, rfl, _, _, rfl, ?_⟩⟩
          have B8 := B7.coin k2 w2
          have dv : (left + c1) / c2 ≤ left + c1 := Int.ediv_le_self _ (by omega)
          have z1 : (1 : Int) ≤ (if (left + c1) / c2 < 1 + r2 then 1 + r2 else (left + c1) / c2) := by split <;> omega
          have z2 : (if (left + c1) / c2 < 1 + r2 then 1 + r2 else (left + c1) / c2) < 2 ^ 300 := by
            have z3 : (if (left + c1) / c2 < 1 + r2 then 1 + r2 else (left + c1) / c2) < 2 ^ 40 := by split <;> omega
            exact Int.lt_trans z3 (by decide)
          refine ⟨_, rfl, _, rfl, _, rfl, p, _, _, rfl, B8.dr.pu, by omega, z1, z2, fun r3 h7 r3a r3b w3 k3 => ⟨_, _, rfl, rfl, _, _, rfl, ?_⟩⟩
          exact ⟨some _, _, rfl, (B8.coin k3 w3).mono (by omega)⟩
        · exact ⟨none, left, rfl, B5.mono (by omega)⟩
      rintro σ h5 ⟨part, seen, rfl, B5⟩
      refine ⟨fun σ h => ∃ who : Str, σ = [some (.ref p), some (.ref q), some (.int many), some (.int way), some (.ref fa), some (.int num), some (.int st), some (.int (0 + (i : Int))), some (.int left), some (prV part), some (.int seen), some (.str who), v12] ∧ PyData.strOk who = true ∧ Rb p fa H h (m + 6) g xs num st, ?_, ?_⟩
      · have hq1 := B5.dr.kp _ _ qp hq
        have hl' : ((ns.map V.str).length : Int) = (ns.length : Int) := by rw [List.length_map]
        refine ⟨_, rfl, _, rfl, _, rfl, _, _, rfl, .inl (SqL.of hq1), p, _, _, rfl, B5.dr.pu, by omega, (by rw [hl']; omega), (by rw [hl']; omega), fun r1 h6 r1a r1b w1 k1 => ?_⟩
        have B6 := B5.coin k1 w1
        have hq2 := B6.dr.kp _ _ qp hq
        rw [hl'] at r1b
        have c4 : r1.toNat < ns.length := by omega
        have c5 : atI (ns.map V.str) r1 = some (V.str (ns[r1.toNat])) := by
          have c6 := atI_nat (xs := ns.map V.str) (j := r1.toNat) (v := V.str (ns[r1.toNat])) (by rw [List.getElem?_map, List.getElem?_eq_getElem c4]; rfl)
          rw [Int.toNat_of_nonneg r1a] at c6
          exact c6
        exact ⟨q, _, _, _, rfl, rfl, SqL.of hq2, c5, _, rfl, hnok _ (List.getElem_mem _), B6.mono (by omega)⟩
      rintro σ h6 ⟨who, rfl, hwho, B6⟩
      refine ⟨fun σ h => ∃ side : Str, σ = [some (.ref p), some (.ref q), some (.int many), some (.int way), some (.ref fa), some (.int num), some (.int st), some (.int (0 + (i : Int))), some (.int left), some (prV part), some (.int seen), some (.str who), some (.str side)] ∧ (side = "buy" ∨ side = "sell") ∧ Rb p fa H h (m + 7) g xs num st, ?_, ?_⟩
      · refine ⟨(by show 2 ≤ sizeLine; decide), fun u1 nu1 => ?_⟩
        have B7 := B6.new nu1 (o := .lst [.str "buy", .str "sell"])
        refine ⟨_, rfl, p, _, _, rfl, B7.dr.pu, by omega, by decide, by decide, fun r2 h5 r2a r2b w2 k2 => ?_⟩
        have B8 := (B7.coin k2 w2).mono (show m + 6 + 1 ≤ m + 7 by omega)
        have hu := coin_new B6.dr.pu nu1 k2
        rcases at2 (x := V.str "buy") (y := .str "sell") r2a r2b with e | e
        · exact ⟨u1, _, _, _, rfl, rfl, SqL.of hu, e, _, rfl, .inl rfl, B8⟩
        · exact ⟨u1, _, _, _, rfl, rfl, SqL.of hu, e, _, rfl, .inr rfl, B8⟩
      rintro σ h7 ⟨side, rfl, hside, B7⟩
      refine ⟨fun σ h => ∃ (g' : V → RV) (xs' : List V), σ = [some (.ref p), some (.ref q), some (.int many), some (.int way), some (.ref fa), some (.int num), some (.int st), some (.int (0 + (i : Int))), some (.int left), some (prV part), some (.int seen), some (.str who), some (.str side)] ∧ xs'.length = i + 1 ∧ Rb p fa H h (m + 11) g' xs' (num + 1) (st + 1), ?_, ?_⟩
      · refine ⟨_, rfl, .inl ⟨rfl, _, SqL.of B7.fl⟩, _, rfl, _, rfl, _, rfl, _, rfl, _, rfl, p, way, _, rfl, B7.dr.pu, by omega, hw0, hw4, fun price h8 w1 k1 => ?_⟩
        have B8 := B7.coin k1 w1
        refine ⟨_, rfl, _, rfl, _, rfl, _, rfl, (by show 8 ≤ sizeLine; decide), fun t nt => ?_⟩
        have tf : fa ≠ t := ne_of_none B8.fl nt
        refine ⟨fa, _, _, rfl, rfl, (by rw [upd_ne tf]; exact B8.fl), (by rw [hl]; exact Nat.lt_of_lt_of_le (show i < 2000 by omega) (by decide)), ?_⟩
        exact ⟨_, _, rfl, by rw [List.length_append, hl]; rfl, (B8.more (r := ⟨num, who, side, price, part, left, seen, st⟩) nt ⟨hside, hwho⟩ rfl rfl).mono (by omega)⟩
      rintro σ h8 ⟨g', xs', rfl, hl', B8⟩
      refine ⟨_, rfl, _, _, rfl, rfl, _, rfl, p, _, _, rfl, B8.dr.pu, by omega, by decide, by decide, fun r1 h9 r1a r1b w1 k1 => ⟨_, _, rfl, rfl, ?_⟩⟩
      have B9 := B8.coin k1 w1
      refine ⟨_, rfl, _, _, rfl, rfl, _, rfl, p, _, _, rfl, B9.dr.pu, by omega, by decide, by decide, fun r2 h10 r2a r2b w2 k2 => ⟨_, _, rfl, rfl, ?_⟩⟩
      exact ⟨g', xs', _, _, _, _, _, _, _, _, rfl, hl', ((B9.coin k2 w2).mono (by omega)).up (by omega) (by omega)⟩
    · rintro σ h3 ⟨g, xs, num, st, v7, v8, v9, v10, v11, v12, rfl, hl, B3⟩
      have e0 : (many.toNat : Int) = many := Int.toNat_of_nonneg hm0
      refine ⟨_, rfl, _, rfl, _, _, rfl, rfl, p, _, _, rfl, B3.dr.pu, by omega, by omega, by omega, fun r1 h4 r1a r1b w1 k1 => ?_⟩
      have B4 := B3.coin k1 w1
      refine ⟨_, rfl, _, rfl, _, rfl, fa, _, rfl, SqL.of B4.fl, fun a1 na1 => ?_⟩
      have B5 := B4.new na1 (o := .lst (cutV xs (some r1) none))
      refine ⟨_, rfl, _, rfl, _, rfl, fa, _, rfl, SqL.of B5.fl, fun a2 na2 => ?_⟩
      have B6 := B5.new na2 (o := .lst (cutV xs none (some r1)))
      refine ⟨a1, a2, _, _, rfl, rfl, (by rw [upd_ne (ne_of_none upd_same na2)]; exact upd_same), upd_same, (by rw [← List.length_append, (rot_perm xs r1a).length_eq, hl]; exact small_size (by omega)), fun a na => ?_⟩
      have B7 := B6.new na (o := .lst (cutV xs (some r1) none ++ cutV xs none (some r1)))
      refine ⟨_, rfl, (by show 2 ≤ sizeLine; decide), fun t nt => ?_⟩
      have B8 := B7.new nt (o := .tup [.ref a, .int st])
      have at_ : a ≠ t := ne_of_none upd_same nt
      have perm := rot_perm xs r1a
      refine k t a st g _ _ upd_same (by rw [upd_ne at_]; exact upd_same) ?_ (by rw [perm.length_eq, hl, e0]) ⟨fun x hx => ⟨B8.rw x (perm.mem_iff.mp hx), (B8.ok.1 x (perm.mem_iff.mp hx)).1⟩, ?_⟩ (B8.dr.pu.mono (by omega)) B8.dr.kp
      · cases q : H a with
        | none => rfl
        | some o =>
          have ap : a ≠ p := B6.dr.pu.ne na
          have := B6.dr.kp a o ap q
          rw [na] at this
          cases this
      · exact (perm.pairwise_iff (fun {x y} z => ⟨z.1.symm, z.2.symm⟩)).mpr B8.ok.2

/-! ### ranked -/
def bySide (g : V → RV) (s : Str) : V → Bool := fun x => decide (V.str (g x).side = V.str s)
def kkOf (g : V → RV) : V → Int × Int := fun x => ((g x).price, (g x).rank)
def rankedL (g : V → RV) (xs : List V) : List V := (xs.filter (bySide g "buy")).mergeSort (rowLe true (kkOf g)) ++ (xs.filter (bySide g "sell")).mergeSort (rowLe false (kkOf g))
def spRanked (K : PySem.W.Frag) (T : List (Addr × Str)) : Sp := fun vs H Q _ => ∃ (a : Addr) (g : V → RV) (xs : List V), vs = [.ref a] ∧ SqL K H a xs ∧ xs.length ≤ 100000 ∧ (∀ x ∈ xs, RowAt H g x) ∧ LamX.Tabs T H ∧
  ∀ (q : Addr) (H' : Hp), (∀ o, H q = some o → ∃ ps, o = .tbl ps) → H' q = some (.lst (rankedL g xs)) → LamX.ExtN H H' → LamX.Tabs T H' → Q (.ref q) H'
theorem take_filter {xs : List V} {f : V → Bool} {i : Nat} {x : V} (h : xs[i]? = some x) : (xs.take (i + 1)).filter f = if f x = true then (xs.take i).filter f ++ [x] else (xs.take i).filter f := by
  rw [List.take_succ, h, List.filter_append]
  by_cases c : f x = true
  · rw [if_pos c]
    show _ ++ List.filter f [x] = _
    rw [List.filter_cons_of_pos c, List.filter_nil]
  · rw [if_neg c]
    show _ ++ List.filter f [x] = _
    rw [List.filter_cons_of_neg c, List.filter_nil, List.append_nil]
abbrev s_ranked : Stmt := topS 3
theorem sc_ranked : FnScope ["rows", "buys", "sells", "row"] ["rows"] (defScope s_ranked) := ⟨rfl, rfl, rfl, by decide +kernel, rfl, by decide +kernel, by decide +kernel⟩
/-- a def whose code object is known -/
def FunC (K : PySem.W.Frag) (x qual : Str) (st : Stmt) (f c : Addr) (fd : FuncData) : Prop := ∃ (oc : Value) (od : Option Addr) (kV doc pm : Value) (an : Option Addr) (ct : Value) (osl : Array (Option Value)),
  fd = PySem.W.fnOf x qual (defArgs st) (defBody st) (defScope st) .none kV doc pm an (.ref c) ct ∧ K.lookup f = some ⟨oc, od, .func fd, osl⟩ ∧ PySem.W.codeIn K (.ref c) qual = true
theorem FunC.mk {x qual : Str} {st : Stmt} {f c : Addr} {oc : Value} {od an : Option Addr} {osl : Array (Option Value)} {kV doc pm ct : Value} (l : K.lookup f = some ⟨oc, od, .func (PySem.W.fnOf x qual (defArgs st) (defBody st) (defScope st) .none kV doc pm an (.ref c) ct), osl⟩)
    (h : PySem.W.codeIn K (.ref c) qual = true) : FunC K x qual st f c (PySem.W.fnOf x qual (defArgs st) (defBody st) (defScope st) .none kV doc pm an (.ref c) ct) := ⟨oc, od, kV, doc, pm, an, ct, osl, rfl, l, h⟩
theorem FunC.ok {x qual : Str} {st : Stmt} {f c : Addr} {fd : FuncData} {N ps : List Str} {k : Nat} {sp : Sp} (F : FunC K x qual st f c fd) (S : FnScope N ps (defScope st)) (len : ∀ vs H Q E, sp vs H Q E → vs.length = ps.length)
    (hbody : ∀ (A : Around) (outer : List Env) (s : Shared) (H : Hp) (vs : List V) (Q : VK) (E : XK), Room k (A.deeper (PyProof.Rows.envOfC qual (defScope st) s.heap.objs.size f (.ref c))) → sp vs H Q E →
      ∃ t, PSs (cxOf CX0 P w K mg base N qual (defScope st) f (.ref c) A outer s H E).nox (defBody st) t ∧ t { nx := fun _ H' => Q .non H', rt := Q } (start N vs) H) : FnOk P w K mg base CX0 (k + 1) f fd ps sp := by
  obtain ⟨oc, od, kV, doc, pm, an, ct, osl, rfl, lk, hcd⟩ := F
  refine fn_of lk hcd S len fun A outer s H vs Q E hr hsp => ?_
  obtain ⟨t, h, q⟩ := hbody A outer s H vs Q E hr hsp
  exact ⟨t, h.nox, q⟩
def tabsOf (PA : Addr) : List (Addr × Str) := [(PA, "ranked.<locals>.<lambda>")]
theorem ok_ranked {f c PA : Addr} {fd : FuncData} (F : FunC K "ranked" "ranked" s_ranked f c fd) (T : Txt mg) (TB : LamX.TabB base mg c PA) : FnOk P w K mg base CX0 2 f fd ["rows"] (spRanked K (tabsOf PA)) := by
  refine F.ok sc_ranked (fun vs H Q E h => ?_) (fun A outer s H vs Q E hr h => ?_)
  · obtain ⟨p, _, _, rfl, _⟩ := h
    rfl
  · obtain ⟨a, g, xs, rfl, hS, hlen, hR, hT, k⟩ := h
    have hmT : (PA, ("ranked.<locals>." : Str) ++ "<lambda>") ∈ tabsOf PA := List.mem_singleton.mpr (by rw [show (("ranked.<locals>." : Str) ++ "<lambda>") = "ranked.<locals>.<lambda>" by decide +kernel])
    have hu : ∀ p ∈ tabsOf PA, p.1 = PA → p.2 = ("ranked.<locals>." : Str) ++ "<lambda>" := fun p hp _ => by
      rw [List.mem_singleton.mp hp]
      show ("ranked.<locals>.<lambda>" : Str) = ("ranked.<locals>." : Str) ++ "<lambda>"
      decide +kernel
    obtain ⟨_, mG_BUY⟩ := T.mg_BUY
    obtain ⟨_, mG_SELL⟩ := T.mg_SELL
    refine ⟨_, (pss_cons (ps_setLc (i := 1) (own := [("row", 3)]) (g := gName 3) rfl sc_ranked.nd rfl rfl (sw_true rfl rfl rfl (by decide +kernel)) (pi_list (pv 0)) (blkOk_by (N := ["rows", "buys", "sells", "row"]) (sc := defScope s_ranked) (by decide +kernel)) (fun _ _ _ _ _ => (pg_name (i := 3) sc_ranked.nd rfl (Or.inl rfl))) (fun _ _ _ _ _ => (pts_one (pt_cmpR op_eq (pe_ix (r := rIxT K) ix_tup (pv 3) pe_int (fun _ _ => rfl)) (pe_glob (v := .str "buy") rfl mG_BUY ⟨_, rfl⟩) (nomark _)))) (fun _ _ _ _ _ => (pv 3)))
          (pss_cons (ps_setLc (i := 2) (own := [("row", 3)]) (g := gName 3) rfl sc_ranked.nd rfl rfl (sw_true rfl rfl rfl (by decide +kernel)) (pi_list (pv 0)) (blkOk_by (N := ["rows", "buys", "sells", "row"]) (sc := defScope s_ranked) (by decide +kernel)) (fun _ _ _ _ _ => (pg_name (i := 3) sc_ranked.nd rfl (Or.inl rfl))) (fun _ _ _ _ _ => (pts_one (pt_cmpR op_eq (pe_ix (r := rIxT K) ix_tup (pv 3) pe_int (fun _ _ => rfl)) (pe_glob (v := .str "sell") rfl mG_SELL ⟨_, rfl⟩) (nomark _)))) (fun _ _ _ _ _ => (pv 3)))
          (pss_cons (ps_set (i := 1) sc_ranked.nd rfl (Or.inl rfl) (pe_sortLam (T := tabsOf PA) (neg := true) rfl T.b_sorted TB rfl hmT hu (hr.mono (by decide)) (pv 1)))
          (pss_cons (ps_set (i := 2) sc_ranked.nd rfl (Or.inl rfl) (pe_sortLam (T := tabsOf PA) (neg := false) (p4 := ⟨0, 0, 0, 0⟩) rfl T.b_sorted TB rfl hmT hu (hr.mono (by decide)) (pv 2)))
          (pss_one (ps_ret (pe_op op_cat (pv 1) (pv 2)))))))), ?_⟩
    have row_at : ∀ {h : Hp}, LamX.ExtN H h → ∀ x ∈ xs, RowAt h g x := fun e x hx => by
      obtain ⟨t, e1, e2⟩ := hR x hx
      exact ⟨t, e1, e _ _ e2 fun ps z => by cases z⟩
    refine ⟨_, rfl, a, rfl, ⟨_, hS⟩, fun D1 nD1 => ?_⟩
    have e1 : ∀ ys : List V, LamX.ExtN H (upd H D1 (.lst ys)) := fun ys => LamX.ExtN.of (Same.new nD1)
    refine lc_list (K := K) (a := a) (xs := xs) (fun i h => h = upd H D1 (.lst ((xs.take i).filter (bySide g "buy")))) rfl (fun i h _ e => by rw [e]; exact extN_L (e1 _) hS) ?_ ?_
    · rintro i x h hx rfl
      obtain ⟨t, rfl, ht⟩ := row_at (e1 ((xs.take i).filter (bySide g "buy"))) x (List.mem_of_getElem? hx)
      refine ⟨rfl, _, rfl, t, _, _, _, rfl, rfl, SqT.of ht, rfl, rfl, _, rfl, ite2 (fun c => ?_) (fun c => ?_)⟩
      · refine ⟨_, rfl, _, upd_same, ?_, ?_⟩
        · exact Nat.lt_of_le_of_lt (Nat.le_trans (List.length_filter_le _ _) (List.length_take_le _ _)) (Nat.lt_of_lt_of_le (show i < 100001 by have := (List.getElem?_eq_some_iff.mp hx).1; omega) (by decide))
        · rw [upd_upd, take_filter hx, if_pos (show bySide g "buy" (.ref t) = true from c)]
      · show upd H D1 _ = _
        rw [take_filter hx, if_neg (show ¬ bySide g "buy" (.ref t) = true from c)]
    · rintro h rfl
      rw [List.take_length]
      refine ⟨_, rfl, a, rfl, ⟨_, extN_L (e1 _) hS⟩, fun D2 nD2 => ?_⟩
      have e2 : ∀ ys : List V, LamX.ExtN H (upd (upd H D1 (.lst (xs.filter (bySide g "buy")))) D2 (.lst ys)) := fun ys => (e1 _).trans (LamX.ExtN.of (Same.new nD2))
      refine lc_list (K := K) (a := a) (xs := xs) (fun i h => h = upd (upd H D1 (.lst (xs.filter (bySide g "buy")))) D2 (.lst ((xs.take i).filter (bySide g "sell")))) rfl (fun i h _ e => by rw [e]; exact extN_L (e2 _) hS) ?_ ?_
      · rintro i x h hx rfl
        obtain ⟨t, rfl, ht⟩ := row_at (e2 ((xs.take i).filter (bySide g "sell"))) x (List.mem_of_getElem? hx)
        refine ⟨rfl, _, rfl, t, _, _, _, rfl, rfl, SqT.of ht, rfl, rfl, _, rfl, ite2 (fun c => ?_) (fun c => ?_)⟩
        · refine ⟨_, rfl, _, upd_same, ?_, ?_⟩
          · exact Nat.lt_of_le_of_lt (Nat.le_trans (List.length_filter_le _ _) (List.length_take_le _ _)) (Nat.lt_of_lt_of_le (show i < 100001 by have := (List.getElem?_eq_some_iff.mp hx).1; omega) (by decide))
          · rw [upd_upd, take_filter hx, if_pos (show bySide g "sell" (.ref t) = true from c)]
        · show upd (upd H D1 _) D2 _ = _
          rw [take_filter hx, if_neg (show ¬ bySide g "sell" (.ref t) = true from c)]
      · rintro h rfl
        rw [List.take_length]
        have d12 : D1 ≠ D2 := ne_of_none upd_same nD2
        have f1 : (upd (upd H D1 (.lst (xs.filter (bySide g "buy")))) D2 (.lst (xs.filter (bySide g "sell")))) D1 = some (.lst (xs.filter (bySide g "buy"))) := by rw [upd_ne d12]; exact upd_same
        have f2 : (upd (upd H D1 (.lst (xs.filter (bySide g "buy")))) D2 (.lst (xs.filter (bySide g "sell")))) D2 = some (.lst (xs.filter (bySide g "sell"))) := upd_same
        have tb := (hT.ext (Same.new nD1 (o := .lst (xs.filter (bySide g "buy"))))).ext (Same.new nD2 (o := .lst (xs.filter (bySide g "sell"))))
        obtain ⟨Hb, eb⟩ : ∃ Hb, Hb = upd (upd H D1 (.lst (xs.filter (bySide g "buy")))) D2 (.lst (xs.filter (bySide g "sell"))) := ⟨_, rfl⟩
        have eB : LamX.ExtN H Hb := eb ▸ e2 _
        rw [← eb] at f1 f2 tb ⊢
        have parts : ∀ {h : Hp}, LamX.ExtN H h → ∀ (fl : V → Bool) (y : V), y ∈ xs.filter fl → ∃ t ws, y = V.ref t ∧ SqT K h t ws ∧ ws.length = 8 ∧ ws[3]? = some (.int (kkOf g y).1) ∧ ws[7]? = some (.int (kkOf g y).2) := fun e fl y hy => by
          obtain ⟨t, rfl, ht⟩ := row_at e y (List.mem_filter.mp hy).1
          exact ⟨t, _, rfl, SqT.of ht, rfl, rfl, rfl⟩
        refine ⟨_, rfl, D1, _, kkOf g, rfl, SqL.of f1, parts eB _, tb, fun H2 p1 x2 t2 n1 => ?_⟩
        have t3 := t2.ext (Same.new n1 (o := .lst ((xs.filter (bySide g "buy")).mergeSort (rowLe true (kkOf g)))))
        have x3 := x2.trans (LamX.ExtN.of (Same.new n1 (o := .lst ((xs.filter (bySide g "buy")).mergeSort (rowLe true (kkOf g))))))
        have f3 := x3 _ _ f2 (fun ps z => by cases z)
        refine ⟨_, rfl, D2, _, kkOf g, rfl, SqL.of f3, parts (eB.trans x3) _, t3, fun H3 p2 x4 t4 n2 => ?_⟩
        have t5 := t4.ext (Same.new n2 (o := .lst ((xs.filter (bySide g "sell")).mergeSort (rowLe false (kkOf g)))))
        have x5 := x4.trans (LamX.ExtN.of (Same.new n2 (o := .lst ((xs.filter (bySide g "sell")).mergeSort (rowLe false (kkOf g))))))
        have f5 := x5 _ _ (upd_same (H := H2) (a := p1) (o := .lst ((xs.filter (bySide g "buy")).mergeSort (rowLe true (kkOf g))))) (fun ps z => by cases z)
        refine ⟨_, rfl, _, rfl, p1, p2, _, _, rfl, rfl, f5, upd_same, ?_, fun q nq => ?_⟩
        · rw [List.length_mergeSort, List.length_mergeSort]
          have l1 := List.length_filter_le (bySide g "buy") xs
          have l2 := List.length_filter_le (bySide g "sell") xs
          exact Nat.le_trans (show _ ≤ 200000 by omega) (by decide)
        · have x6 := x5.trans (LamX.ExtN.of (Same.new nq (o := .lst ((xs.filter (bySide g "buy")).mergeSort (rowLe true (kkOf g)) ++ (xs.filter (bySide g "sell")).mergeSort (rowLe false (kkOf g))))))
          have xA := (eB.trans x3).trans x6
          refine k q _ ?_ upd_same xA (t5.ext (Same.new nq))
          intro o ho
          apply Classical.byContradiction
          intro no
          have := ((eB.trans x3).trans x5) q o ho (fun ps z => no ⟨ps, z⟩)
          rw [nq] at this
          cases this

/-! ### data of rows, the order -/
def rCntD (K : PySem.W.Frag) : V → List V → Hp → VK → Prop := fun x xs H Q => ∃ (a : Addr) (y : V) (d : PyData) (ds : List PyData), x = V.ref a ∧ xs = [y] ∧ Dp K H (V.ref a) (.list ds) ∧ Dp K H y d ∧
    SeqAt.shaped (.list ds) = true ∧ SeqAt.shaped d = true ∧ Q (.int ((ds.countP fun z => PyData.eqv z d : Nat))) H
theorem mt_countD {X : Cx} (hu : X.A.units + 65 < cLine) : MtR X "list.count" (rCntD X.K) := by
  intro pins s σ H x xs v us Q I rx rxs h
  obtain ⟨a, y, d, ds, rfl, rfl, hl, hy, sl, sd, q⟩ := h
  cases rx
  cases rxs with
  | cons ry rt =>
    rename_i uy ut
    cases rt
    obtain ⟨bs, r1⟩ := Dp.reads I d y uy hy ry
    have hxs : PyData.canLayAll0 ds = true := SeqAt.canLay_of_shaped sl
    have hroom : X.A.units + 1 + min (PyData.depthAll ds) d.depth < cLine := PyProof.Rows.room_in_shaped sd hu
    cases hl with
    | lst hs ha =>
      obtain ⟨its, rv, ⟨⟨cls, dd, data, sls⟩, n, ho, hc, hdn, hdt⟩, hlen⟩ := I.list hs
      simp only at hc hdt
      subst hc hdt
      obtain ⟨as, h4⟩ := Dp.readsAll I ds _ its ha rv
      have hmap : its.map (SeqAt.readOf s.heap) = ds := SeqAt.readsAll_map ds its as hxs h4
      have hc : its.toArray.toList.countP (fun u => PyData.eqv (SeqAt.readOf s.heap u) d) = ds.countP fun z => PyData.eqv z d := by
        rw [← hmap, List.countP_map]
        rfl
      refine call_meets PySem.F.slot_list_count ⟨_, ho, rfl⟩ PySem.F.entry_list_count (PySem.F.args_list_count_2 _ _)
        (SeqAt.list_countAt a its.toArray n dd sls uy (fun u => PyData.eqv (SeqAt.readOf s.heap u) d)) ⟨ho, SeqAt.items_eqAt (vs := its.toArray) (show ReadsAll s.heap its.toArray.toList ds as from h4) r1 hxs (SeqAt.canLay_of_shaped sd) hroom, ?_⟩
      exact ⟨.int _, H, I.tok _, ⟨s.toks, by rw [hc]⟩, q⟩
def datP : Option Int → PyData
  | none => .none
  | some i => .int i
def RV.dat (r : RV) : PyData := .tuple [.int r.num, .str r.who, .str r.side, .int r.price, datP r.part, .int r.left, .int r.seen, .int r.rank]
theorem side_ok {s : Str} (h : s = "buy" ∨ s = "sell") : PyData.strOk s = true := by
  rcases h with h | h <;> rw [h] <;> decide +kernel
theorem RV.lay {r : RV} (h : r.Txt) : r.dat.canLay0 = true := by
  have h1 := side_ok h.1
  have h2 := h.2
  unfold RV.dat
  cases r.part <;> simp [PyData.canLay0, PyData.canLayAll0, datP, h1, h2]
theorem RV.depth (r : RV) : r.dat.depth = 1 := by
  unfold RV.dat
  cases r.part <;> simp [PyData.depth, PyData.depthAll, datP]
theorem RV.shaped {r : RV} (h : r.Txt) : SeqAt.shaped r.dat = true := by
  show (r.dat.canLay0 && decide (r.dat.depth ≤ 64)) = true
  rw [RV.lay h, r.depth]
  rfl
theorem RV.self {r : RV} (h : r.Txt) : PyData.eqv r.dat r.dat = true := SeqAt.eqv_refl _ (RV.lay h)
theorem RV.other {r r' : RV} (h : r.num ≠ r'.num) : PyData.eqv r.dat r'.dat = false := by
  have e : (r.num == r'.num) = false := beq_eq_false_iff_ne.mpr h
  unfold RV.dat
  simp [PyData.eqv, PyData.eqvAll, e]
theorem dats_lay {g : V → RV} : ∀ {xs : List V}, (∀ x ∈ xs, (g x).Txt) → PyData.canLayAll0 (xs.map fun x => (g x).dat) = true
  | [], _ => by simp [PyData.canLayAll0]
  | x :: xs, h => by simp [PyData.canLayAll0, RV.lay (h x (by simp)), dats_lay fun y hy => h y (List.mem_cons_of_mem _ hy)]
theorem dats_depth {g : V → RV} : ∀ (xs : List V), PyData.depthAll (xs.map fun x => (g x).dat) ≤ 1
  | [] => by simp [PyData.depthAll]
  | x :: xs => by
    have h1 := dats_depth (g := g) xs
    have h2 := (g x).depth
    simp only [List.map_cons, PyData.depthAll]
    omega
theorem dats_shaped {g : V → RV} {xs : List V} (h : ∀ x ∈ xs, (g x).Txt) : SeqAt.shaped (.list (xs.map fun x => (g x).dat)) = true := by
  have h1 := dats_depth (g := g) xs
  have h2 : PyData.depth (.list (xs.map fun x => (g x).dat)) ≤ 64 := by
    simp only [PyData.depth]
    omega
  show (PyData.canLay0 (.list _) && decide (PyData.depth (.list _) ≤ 64)) = true
  rw [Bool.and_eq_true]
  exact ⟨by simp only [PyData.canLay0]; exact dats_lay h, decide_eq_true h2⟩
theorem dats_self {g : V → RV} {xs : List V} (h : ∀ x ∈ xs, (g x).Txt) : PyData.eqv (.list (xs.map fun x => (g x).dat)) (.list (xs.map fun x => (g x).dat)) = true := SeqAt.eqv_refl _ (SeqAt.canLay_of_shaped (dats_shaped h))
theorem row_dp {K : PySem.W.Frag} {H : Hp} {g : V → RV} {x : V} (h : RowAt H g x) : Dp K H x (g x).dat := by
  obtain ⟨t, e, ht⟩ := h
  have ep : Dp K H (prV (g x).part) (datP (g x).part) := by
    cases (g x).part with
    | none => exact .non
    | some i => exact .int i
  have z : Dp K H (V.ref t) (g x).dat := .tup (SqT.of ht) (.cons (.int _) (.cons (.str _) (.cons (.str _) (.cons (.int _) (.cons ep (.cons (.int _) (.cons (.int _) (.cons (.int _) .nil))))))))
  rw [← e] at z
  exact z
theorem rows_dp {K : PySem.W.Frag} {H : Hp} {g : V → RV} : ∀ {xs : List V}, (∀ x ∈ xs, RowAt H g x) → DpAll K H xs (xs.map fun x => (g x).dat)
  | [], _ => .nil
  | x :: xs, h => .cons (row_dp (h x (by simp))) (rows_dp fun y hy => h y (List.mem_cons_of_mem _ hy))
theorem count_one {g : V → RV} {x : V} : ∀ {xs : List V}, (∀ y ∈ xs, (g y).Txt) → xs.Pairwise (fun a b => (g a).num ≠ (g b).num ∧ (g a).rank ≠ (g b).rank) → x ∈ xs → (xs.map fun y => (g y).dat).countP (fun z => PyData.eqv z (g x).dat) = 1
  | y :: ys, h, hp, hx => by
    obtain ⟨p1, p2⟩ := List.pairwise_cons.mp hp
    rw [List.map_cons, List.countP_cons]
    rcases List.mem_cons.mp hx with e | hx
    · subst e
      have z : (ys.map fun y => (g y).dat).countP (fun z => PyData.eqv z (g x).dat) = 0 := by
        rw [List.countP_eq_zero]
        intro d hd
        obtain ⟨y, hy, rfl⟩ := List.mem_map.mp hd
        rw [RV.other (fun e => (p1 y hy).1 e.symm)]
        decide
      rw [z, RV.self (h x (by simp))]
      rfl
    · rw [count_one (fun z hz => h z (List.mem_cons_of_mem _ hz)) p2 hx, RV.other (p1 x hx).1]
      rfl
theorem rowLe_true {neg : Bool} {kk : V → Int × Int} {x y : V} : rowLe neg kk x y = true ↔ (key1 neg (kk x).1 < key1 neg (kk y).1 ∨ (key1 neg (kk x).1 = key1 neg (kk y).1 ∧ (kk x).2 ≤ (kk y).2)) := decide_eq_true_iff
theorem side_sorted {neg : Bool} {g : V → RV} (xs : List V) : ((xs.mergeSort (rowLe neg (kkOf g)))).Pairwise fun x y => rowLe neg (kkOf g) x y = true :=
  List.pairwise_mergeSort (fun a b c h1 h2 => by
    rw [rowLe_true] at h1 h2 ⊢
    omega) (fun a b => by
    rw [Bool.or_eq_true, rowLe_true, rowLe_true]
    omega) xs
theorem ranked_perm {g : V → RV} {xs : List V} (h : ∀ x ∈ xs, (g x).Txt) : (rankedL g xs).Perm xs := by
  have e : xs.filter (bySide g "sell") = xs.filter (fun x => !bySide g "buy" x) := by
    refine List.filter_congr fun x hx => ?_
    unfold bySide
    rcases (h x hx).1 with e | e <;> rw [e] <;> decide +kernel
  unfold rankedL
  rw [e]
  exact ((List.mergeSort_perm _ _).append (e ▸ List.mergeSort_perm _ _)).trans (List.filter_append_perm _ _)
theorem better_same {neg : Bool} {g : V → RV} {x y : V} (h : rowLe neg (kkOf g) x y = true) (hr : (g x).rank ≠ (g y).rank) (hs : (g x).side = (g y).side) (hn : decide ((g x).side = "buy") = neg) : betterM (g x) (g y) = true := by
  rw [rowLe_true] at h
  unfold betterM
  rw [if_pos hs, hn]
  by_cases e : (g x).price = (g y).price
  · rw [if_pos e]
    refine decide_eq_true ?_
    have h' : key1 neg (g x).price < key1 neg (g y).price ∨ (key1 neg (g x).price = key1 neg (g y).price ∧ (g x).rank ≤ (g y).rank) := h
    rw [e] at h'
    omega
  · rw [if_neg e]
    have h' : key1 neg (g x).price < key1 neg (g y).price ∨ (key1 neg (g x).price = key1 neg (g y).price ∧ (g x).rank ≤ (g y).rank) := h
    cases neg with
    | true =>
      have h2 : -(g x).price < -(g y).price ∨ (-(g x).price = -(g y).price ∧ (g x).rank ≤ (g y).rank) := h'
      rw [decide_eq_true (show (g y).price < (g x).price by omega)]
      rfl
    | false =>
      have h2 : (g x).price < (g y).price ∨ ((g x).price = (g y).price ∧ (g x).rank ≤ (g y).rank) := h'
      rw [decide_eq_false (show ¬ (g y).price < (g x).price by omega)]
      rfl
theorem sell_buy : ¬ ("sell" : Str) = "buy" := by decide +kernel
theorem ranked_better {g : V → RV} {xs : List V} (h : ∀ x ∈ xs, (g x).Txt) (hp : xs.Pairwise fun a b => (g a).num ≠ (g b).num ∧ (g a).rank ≠ (g b).rank) : (rankedL g xs).Pairwise fun x y => betterM (g x) (g y) = true := by
  have perm := ranked_perm h
  have hp2 : (rankedL g xs).Pairwise fun a b => (g a).num ≠ (g b).num ∧ (g a).rank ≠ (g b).rank := (perm.pairwise_iff (fun {x y} z => ⟨z.1.symm, z.2.symm⟩)).mpr hp
  have isB : ∀ x ∈ (xs.filter (bySide g "buy")).mergeSort (rowLe true (kkOf g)), (g x).side = "buy" := fun x hx => by
    have := (List.mem_filter.mp ((List.mergeSort_perm _ _).mem_iff.mp hx)).2
    exact vstr_ne.mp (of_decide_eq_true this)
  have isS : ∀ x ∈ (xs.filter (bySide g "sell")).mergeSort (rowLe false (kkOf g)), (g x).side = "sell" := fun x hx => by
    have := (List.mem_filter.mp ((List.mergeSort_perm _ _).mem_iff.mp hx)).2
    exact vstr_ne.mp (of_decide_eq_true this)
  obtain ⟨q1, q2, q3⟩ := List.pairwise_append.mp (show ((xs.filter (bySide g "buy")).mergeSort (rowLe true (kkOf g)) ++ (xs.filter (bySide g "sell")).mergeSort (rowLe false (kkOf g))).Pairwise _ from hp2)
  refine List.pairwise_append.mpr ⟨?_, ?_, fun x hx y hy => ?_⟩
  · refine (q1.and (side_sorted (neg := true) (g := g) _)).imp_of_mem fun {x y} hx hy z => better_same z.2 z.1.2 (by rw [isB x hx, isB y hy]) (by rw [isB x hx]; rfl)
  · refine (q2.and (side_sorted (neg := false) (g := g) _)).imp_of_mem fun {x y} hx hy z => better_same z.2 z.1.2 (by rw [isS x hx, isS y hy]) (by rw [isS x hx]; exact decide_eq_false sell_buy)
  · unfold betterM
    rw [isB x hx, isS y hy, if_neg (fun e => sell_buy e.symm)]
    rfl

/-! ### _law_same -/
inductive Scal : V → Prop where
  | non : Scal .non
  | int (i : Int) : Scal (.int i)
  | str {s : Str} (h : PyData.strOk s = true) : Scal (.str s)
def datS : V → PyData
  | .int i => .int i
  | .str s => .str s
  | _ => .none
theorem Scal.dp {K : PySem.W.Frag} {H : Hp} {x : V} (h : Scal x) : Dp K H x (datS x) := by
  cases h with
  | non => exact .non
  | int i => exact .int i
  | str h => exact .str _
theorem Scal.lay {x : V} (h : Scal x) : (datS x).canLay0 = true := by cases h <;> simp_all [datS, PyData.canLay0]
theorem Scal.depth {x : V} (h : Scal x) : (datS x).depth = 0 := by cases h <;> simp [datS, PyData.depth]
theorem Scal.shaped {x : V} (h : Scal x) : SeqAt.shaped (datS x) = true := by
  show ((datS x).canLay0 && decide ((datS x).depth ≤ 64)) = true
  rw [h.lay, h.depth]
  rfl
theorem kitLT {K : PySem.W.Frag} {ty : String} {a b : Bool} (h1 : kitB ty "list" = some a) (h2 : kitB ty "tuple" = some b) : PySem.W.kitAny K (.type ty) [.type "list", .type "tuple"] = some (a || b) := by
  refine kitAny_cons (kit_ty h1) (fun e => ?_) (fun e => by rw [e]; rfl)
  rw [e, Bool.false_or]
  exact kitAny_cons (kit_ty h2) (fun e => by rw [e]; exact kitAny_nil) (fun e => e)
theorem Scal.ty {K : PySem.W.Frag} {H : Hp} {x : V} (h : Scal x) : ∃ ty, TyX K H x (.type ty) ∧ kitB ty "list" = some false ∧ kitB ty "tuple" = some false ∧ kitB ty "bool" = some false := by
  cases h with
  | non => exact ⟨_, .base .non, by decide +kernel, by decide +kernel, by decide +kernel⟩
  | int i => exact ⟨_, .base (.int _), by decide +kernel, by decide +kernel, by decide +kernel⟩
  | str h => exact ⟨_, .base (.str _), by decide +kernel, by decide +kernel, by decide +kernel⟩
theorem walk_zipT {K : PySem.W.Frag} {a b : Addr} {xs ys : List V} {n : Nat} (hn : n = min xs.length ys.length) : Walk (RZ.ItzT K a b) n (fun H => SqT K H a xs ∧ SqT K H b ys) (YPair (fun i => xs[i]?) (fun i => ys[i]?)) := by
  subst hn
  refine ⟨fun i _ hi q => ?_, fun _ q => ⟨xs, ys, q.1, q.2, by omega⟩, fun i H v H' _ q y => ?_⟩
  · have h1 : i < xs.length := by omega
    have h2 : i < ys.length := by omega
    exact ⟨xs, ys, xs[i], ys[i], q.1, q.2, by simp [h1], by simp [h2]⟩
  · obtain ⟨T, x, z, z1, z2, z3, z4, z5⟩ := y
    exact ⟨T, x, z, z1, z2, z3, z4 xs q.1, z5 ys q.2⟩
theorem iteT' {c : Prop} [Decidable c] {A B : Prop} (hc : c) (h : A) : if c then A else B := by rw [if_pos hc]; exact h
/-- alike at this depth: plain, or two lists, or two tuples, of the same items -/
def SamI (inner : Hp → V → Prop) (H : Hp) (x y : V) : Prop := (x = y ∧ Scal x) ∨ ∃ (a b : Addr) (xs : List V), x = .ref a ∧ y = .ref b ∧ ((H a = some (.lst xs) ∧ H b = some (.lst xs)) ∨ (H a = some (.tup xs) ∧ H b = some (.tup xs))) ∧ xs.length ≤ 100000 ∧ ∀ v ∈ xs, inner H v
def spSame (r : Hp → V → V → Prop) : Sp := fun vs H Q _ => ∃ x y, vs = [x, y] ∧ r H x y ∧ ∀ H', Same H H' → Q (.bl true) H'
abbrev s_law_same : Stmt := topS 10
theorem sc_law_same : FnScope ["this", "that", "a", "b"] ["this", "that"] (defScope s_law_same) := ⟨rfl, rfl, rfl, by decide +kernel, rfl, by decide +kernel, by decide +kernel⟩
theorem ok_same {f : Addr} {fd : FuncData} {k0 : Nat} {inner : Hp → V → Prop} (F : Fun K "_law_same" "_law_same" s_law_same f fd) (T : Txt mg) (stay : ∀ H H' v, Same H H' → inner H v → inner H' v)
    (c_same : Cal P w K mg base k0 "_law_same" ["this", "that"] (spSame fun H x y => x = y ∧ inner H x)) : FnOk P w K mg base CX0 (k0 + 2) f fd ["this", "that"] (spSame (SamI inner)) := by
  refine F.ok sc_law_same (fun vs H Q E h => ?_) (fun cdv A outer s H vs Q E hr h => ?_)
  · obtain ⟨x, y, rfl, _⟩ := h
    rfl
  · obtain ⟨x, y, rfl, hxy, k⟩ := h
    obtain ⟨f_same, fd_same, G_same, m_same, k_same, b_same⟩ := c_same
    refine ⟨_, (pss_cons (ps_if (pt_val (pe_callB call_isiT (by rfl) T.b_isinstance (by decide +kernel) (pa_cons (pv 1) (pa_cons (pe_tup (pa_cons (pe_bltn (v := .ty "list") (by rfl) T.b_list (by decide +kernel) rfl) (pa_cons (pe_bltn (v := .ty "tuple") (by rfl) T.b_tuple (by decide +kernel) rfl) pa_nil))) pa_nil)))) (pss_cons (ps_if (PW.pt (pw_or (pt_cmpR op_ne (pe_callB call_isi (by rfl) T.b_isinstance (by decide +kernel) (pa_cons (pv 0) (pa_cons (pe_bltn (v := .ty "list") (by rfl) T.b_list (by decide +kernel) rfl) pa_nil))) (pe_callB call_isi (by rfl) T.b_isinstance (by decide +kernel) (pa_cons (pv 1) (pa_cons (pe_bltn (v := .ty "list") (by rfl) T.b_list (by decide +kernel) rfl) pa_nil))) (nomark _)) (pw_or1 (pt_cmpR op_ne (pe_callB call_isi (by rfl) T.b_isinstance (by decide +kernel) (pa_cons (pv 0) (pa_cons (pe_bltn (v := .ty "tuple") (by rfl) T.b_tuple (by decide +kernel) rfl) pa_nil))) (pe_callB call_isi (by rfl) T.b_isinstance (by decide +kernel) (pa_cons (pv 1) (pa_cons (pe_bltn (v := .ty "tuple") (by rfl) T.b_tuple (by decide +kernel) rfl) pa_nil))) (nomark _))))) (pss_one (ps_ret pe_bl)) pss_nil)
            (pss_one (ps_ret (pe_and (pe_cmpR op_eq (pe_callB call_len_seq (by rfl) T.b_len PySem.boot_len (pa_cons (pv 0) pa_nil)) (pe_callB call_len_seq (by rfl) T.b_len PySem.boot_len (pa_cons (pv 1) pa_nil)) (nomark _)) (pe_one (pe_callB (cr_all rfl) (by rfl) T.b_all (by decide +kernel) (pa_cons (pe_lc (own := [("a", 2), ("b", 3)]) (tt := tYes) rfl sc_law_same.nd (RZ.pi_zipA (by rfl) T.b_zip (pa_cons (pv 0) (pa_cons (pv 1) pa_nil))) (blkOk_by (N := ["this", "that", "a", "b"]) (sc := defScope s_law_same) (by decide +kernel)) (fun _ _ _ _ _ => (show PG _ _ (gTup K 2 (gCons (gName 2) (gCons (gName 3) gNil))) from pg_tup rfl (pgs_cons (pg_name (i := 2) sc_law_same.nd rfl (Or.inl rfl)) (pgs_cons (pg_name (i := 3) sc_law_same.nd rfl (Or.inl rfl)) pgs_nil)))) (fun _ _ _ _ _ => pts_nil) (fun _ _ _ _ _ => (pe_call G_same (hr.mono (by omega)) rfl m_same k_same b_same .nil pass0 (pa_cons (pv 2) (pa_cons (pv 3) pa_nil))))) pa_nil))))))) pss_nil)
          (pss_cons (ps_if (PW.pt (pw_or (pt_val (pe_callB call_isi (by rfl) T.b_isinstance (by decide +kernel) (pa_cons (pv 0) (pa_cons (pe_bltn (v := .ty "bool") (by rfl) T.b_bool (by decide +kernel) rfl) pa_nil)))) (pw_or1 (pt_val (pe_callB call_isi (by rfl) T.b_isinstance (by decide +kernel) (pa_cons (pv 1) (pa_cons (pe_bltn (v := .ty "bool") (by rfl) T.b_bool (by decide +kernel) rfl) pa_nil))))))) (pss_one (ps_ret (pe_and (pe_callB call_isi (by rfl) T.b_isinstance (by decide +kernel) (pa_cons (pv 0) (pa_cons (pe_bltn (v := .ty "bool") (by rfl) T.b_bool (by decide +kernel) rfl) pa_nil))) (pe_and (pe_callB call_isi (by rfl) T.b_isinstance (by decide +kernel) (pa_cons (pv 1) (pa_cons (pe_bltn (v := .ty "bool") (by rfl) T.b_bool (by decide +kernel) rfl) pa_nil))) (pe_one (pe_cmpR (op_eqD hr.units) (pv 0) (pv 1) (nomark _))))))) pss_nil)
          (pss_one (ps_ret (pe_cmpR (op_eqD hr.units) (pv 0) (pv 1) (nomark _)))))), ?_⟩
    refine ⟨_, rfl, (by show 2 ≤ sizeLine; decide), fun tp ntp => ?_⟩
    have s1 : Same H (upd H tp (.tup [.ty "list", .ty "tuple"])) := Same.new ntp
    rcases hxy with ⟨rfl, sc⟩ | ⟨a, b, xs, rfl, rfl, hab, hl, hin⟩
    · obtain ⟨ty, ht, k1, k2, k3⟩ := sc.ty (K := K) (H := upd H tp (.tup [.ty "list", .ty "tuple"]))
      refine ⟨_, tp, _, _, _, _, rfl, upd_same, .cons (.ty "list") (.cons (.ty "tuple") .nil), ht, kitLT k1 k2, _, rfl, iteF ?_⟩
      refine ⟨_, rfl, _, _, _, _, false, rfl, .ty "bool", ht, kit_ty k3, _, rfl, ?_⟩
      refine iteF ⟨_, rfl, _, _, _, _, false, rfl, .ty "bool", ht, kit_ty k3, _, rfl, ?_⟩
      refine iteF ?_
      refine ⟨_, rfl, _, rfl, _, _, sc.dp, sc.dp, sc.shaped, sc.shaped, ?_⟩
      rw [PySem.SeqAt.eqv_refl _ sc.lay]
      exact k _ s1
    · rcases hab with ⟨ea, eb⟩ | ⟨ea, eb⟩
      · have ea1 := s1 _ _ ea
        have eb1 := s1 _ _ eb
        have tyb : TyX K (upd H tp (.tup [.ty "list", .ty "tuple"])) (.ref b) (.type "list") := .base (.lst eb1)
        have tya : TyX K (upd H tp (.tup [.ty "list", .ty "tuple"])) (.ref a) (.type "list") := .base (.lst ea1)
        refine ⟨_, tp, _, _, _, _, rfl, upd_same, .cons (.ty "list") (.cons (.ty "tuple") .nil), tyb, kitLT (a := true) (b := false) (by decide +kernel) (by decide +kernel), _, rfl, iteT ?_⟩
        refine ⟨_, rfl, _, _, _, _, true, rfl, .ty "list", tya, kit_ty (by decide +kernel), _, rfl, _, _, _, _, true, rfl, .ty "list", tyb, kit_ty (by decide +kernel), rfl, _, rfl, ?_⟩
        refine iteF ⟨_, rfl, _, _, _, _, false, rfl, .ty "tuple", tya, kit_ty (by decide +kernel), _, rfl, _, _, _, _, false, rfl, .ty "tuple", tyb, kit_ty (by decide +kernel), rfl, _, rfl, ?_⟩
        refine iteF ?_
        refine ⟨_, rfl, _, _, rfl, .inl (SqL.of ea1), _, rfl, _, _, rfl, .inl (SqL.of eb1), rfl, ?_⟩
        refine ⟨_, rfl, iteT' (decide_eq_true rfl) ?_⟩
        refine ⟨_, rfl, _, rfl, a, b, xs, xs, rfl, .inl ⟨SqL.of ea1, SqL.of eb1, fun D nD => ?_⟩⟩
        obtain ⟨H1, e1⟩ : ∃ H1, H1 = upd H tp (.tup [.ty "list", .ty "tuple"]) := ⟨_, rfl⟩
        rw [← e1] at s1 ea1 eb1 nD ⊢
        refine lc_it (n := xs.length) (walk_zip (K := K) (a := a) (b := b) (xs := xs) (ys := xs) (Nat.min_self _).symm) (fun i h => h D = some (.lst (List.replicate i (.bl true))) ∧ Same H1 h) ⟨upd_same, Same.new nD⟩ (fun i h _ p => ⟨SqL.of (p.2 _ _ ea1), SqL.of (p.2 _ _ eb1)⟩) ?_ ?_
        · rintro i x h h' hi ⟨hD, sh⟩ ⟨T, x1, y1, rfl, nT, rfl, hx1, hy1⟩
          have hx1' : xs[i]? = some x1 := hx1
          have hy1' : xs[i]? = some y1 := hy1
          obtain rfl : x1 = y1 := Option.some.inj (hx1'.symm.trans hy1')
          have mx := List.mem_of_getElem? hx1'
          have s2 : Same h (upd h T (.tup [x1, x1])) := Same.new nT
          refine ⟨T, _, rfl, SqT.of upd_same, rfl, _, _, rfl, _, _, rfl, rfl, rfl, yesC ⟨_, rfl, _, rfl, x1, x1, rfl, ⟨rfl, stay _ _ _ (s1.trans (sh.trans s2)) (hin x1 mx)⟩, fun H' s3 => ?_⟩⟩
          have hD' := s3 _ _ (s2 _ _ hD)
          refine ⟨_, hD', by rw [List.length_replicate]; exact Nat.lt_of_lt_of_le (show i < 100001 by omega) (by decide), ?_, fun c o e => ?_⟩
          · rw [upd_same, List.replicate_succ']
          · rw [upd_ne (ne_of_none e nD)]
            exact s3 _ _ (s2 _ _ (sh _ _ e))
        · rintro h ⟨hD, sh⟩
          refine ⟨D, List.replicate xs.length true, rfl, SqL.of (by rw [List.map_replicate]; exact hD), ?_⟩
          rw [show (List.replicate xs.length true).all id = true by simp]
          exact k _ (s1.trans sh)
      · have ea1 := s1 _ _ ea
        have eb1 := s1 _ _ eb
        have tyb : TyX K (upd H tp (.tup [.ty "list", .ty "tuple"])) (.ref b) (.type "tuple") := .base (.tup eb1)
        have tya : TyX K (upd H tp (.tup [.ty "list", .ty "tuple"])) (.ref a) (.type "tuple") := .base (.tup ea1)
        refine ⟨_, tp, _, _, _, _, rfl, upd_same, .cons (.ty "list") (.cons (.ty "tuple") .nil), tyb, kitLT (a := false) (b := true) (by decide +kernel) (by decide +kernel), _, rfl, iteT ?_⟩
        refine ⟨_, rfl, _, _, _, _, false, rfl, .ty "list", tya, kit_ty (by decide +kernel), _, rfl, _, _, _, _, false, rfl, .ty "list", tyb, kit_ty (by decide +kernel), rfl, _, rfl, ?_⟩
        refine iteF ⟨_, rfl, _, _, _, _, true, rfl, .ty "tuple", tya, kit_ty (by decide +kernel), _, rfl, _, _, _, _, true, rfl, .ty "tuple", tyb, kit_ty (by decide +kernel), rfl, _, rfl, ?_⟩
        refine iteF ?_
        refine ⟨_, rfl, _, _, rfl, .inr (SqT.of ea1), _, rfl, _, _, rfl, .inr (SqT.of eb1), rfl, ?_⟩
        refine ⟨_, rfl, iteT' (decide_eq_true rfl) ?_⟩
        refine ⟨_, rfl, _, rfl, a, b, xs, xs, rfl, .inr ⟨SqT.of ea1, SqT.of eb1, fun D nD => ?_⟩⟩
        obtain ⟨H1, e1⟩ : ∃ H1, H1 = upd H tp (.tup [.ty "list", .ty "tuple"]) := ⟨_, rfl⟩
        rw [← e1] at s1 ea1 eb1 nD ⊢
        refine lc_it (n := xs.length) (walk_zipT (K := K) (a := a) (b := b) (xs := xs) (ys := xs) (Nat.min_self _).symm) (fun i h => h D = some (.lst (List.replicate i (.bl true))) ∧ Same H1 h) ⟨upd_same, Same.new nD⟩ (fun i h _ p => ⟨SqT.of (p.2 _ _ ea1), SqT.of (p.2 _ _ eb1)⟩) ?_ ?_
        · rintro i x h h' hi ⟨hD, sh⟩ ⟨T, x1, y1, rfl, nT, rfl, hx1, hy1⟩
          have hx1' : xs[i]? = some x1 := hx1
          have hy1' : xs[i]? = some y1 := hy1
          obtain rfl : x1 = y1 := Option.some.inj (hx1'.symm.trans hy1')
          have mx := List.mem_of_getElem? hx1'
          have s2 : Same h (upd h T (.tup [x1, x1])) := Same.new nT
          refine ⟨T, _, rfl, SqT.of upd_same, rfl, _, _, rfl, _, _, rfl, rfl, rfl, yesC ⟨_, rfl, _, rfl, x1, x1, rfl, ⟨rfl, stay _ _ _ (s1.trans (sh.trans s2)) (hin x1 mx)⟩, fun H' s3 => ?_⟩⟩
          have hD' := s3 _ _ (s2 _ _ hD)
          refine ⟨_, hD', by rw [List.length_replicate]; exact Nat.lt_of_lt_of_le (show i < 100001 by omega) (by decide), ?_, fun c o e => ?_⟩
          · rw [upd_same, List.replicate_succ']
          · rw [upd_ne (ne_of_none e nD)]
            exact s3 _ _ (s2 _ _ (sh _ _ e))
        · rintro h ⟨hD, sh⟩
          refine ⟨D, List.replicate xs.length true, rfl, SqL.of (by rw [List.map_replicate]; exact hD), ?_⟩
          rw [show (List.replicate xs.length true).all id = true by simp]
          exact k _ (s1.trans sh)

/-! ### the law -/
def inn0 : Hp → V → Prop := fun _ _ => False
def inn1 : Hp → V → Prop := fun H x => SamI inn0 H x x
def inn2 : Hp → V → Prop := fun H x => SamI inn1 H x x
theorem SamI.stay {inner : Hp → V → Prop} (st : ∀ H H' v, Same H H' → inner H v → inner H' v) (H H' : Hp) (x : V) (s : Same H H') (h : SamI inner H x x) : SamI inner H' x x := by
  rcases h with ⟨e, sc⟩ | ⟨a, b, xs, e1, e2, hab, hl, hin⟩
  · exact .inl ⟨rfl, sc⟩
  · refine .inr ⟨a, b, xs, e1, e2, ?_, hl, fun v hv => st _ _ _ s (hin v hv)⟩
    rcases hab with ⟨ea, eb⟩ | ⟨ea, eb⟩
    · exact .inl ⟨s _ _ ea, s _ _ eb⟩
    · exact .inr ⟨s _ _ ea, s _ _ eb⟩
theorem ok_same3 {f : Addr} {fd : FuncData} (F : Fun K "_law_same" "_law_same" s_law_same f fd) (T : Txt mg) (m : mg "_law_same" = some (.ref f)) (kp : PySem.W.keepIn K (.ref f) = true) (b : Binds K fd ["this", "that"] []) :
    FnOk P w K mg base CX0 6 f fd ["this", "that"] (spSame (SamI inn2)) := by
  have st0 : ∀ H H' v, Same H H' → inn0 H v → inn0 H' v := fun _ _ _ _ h => h
  have st1 : ∀ H H' v, Same H H' → inn1 H v → inn1 H' v := fun H H' v s h => SamI.stay st0 H H' v s h
  have st2 : ∀ H H' v, Same H H' → inn2 H v → inn2 H' v := fun H H' v s h => SamI.stay st1 H H' v s h
  have C0 : Cal P w K mg base 0 "_law_same" ["this", "that"] (spSame fun H x y => x = y ∧ inn0 H x) := ⟨f, fd, ⟨fun vs H Q E h => by obtain ⟨x, y, _, ⟨_, z⟩, _⟩ := h; exact z.elim, fun A outer s H args us vs Q E _ _ _ _ h => by obtain ⟨x, y, _, ⟨_, z⟩, _⟩ := h; exact z.elim⟩, m, kp, b⟩
  have imp : ∀ {k : Nat} {inner : Hp → V → Prop}, FnOk P w K mg base CX0 k f fd ["this", "that"] (spSame (SamI inner)) → Cal P w K mg base k "_law_same" ["this", "that"] (spSame fun H x y => x = y ∧ (fun H x => SamI inner H x x) H x) := fun G => ⟨f, fd, G.imp fun vs H Q E h => by
    obtain ⟨x, y, e, ⟨rfl, z⟩, q⟩ := h
    exact ⟨x, x, e, z, q⟩, m, kp, b⟩
  exact ok_same F T st2 (imp (ok_same F T st1 (imp (ok_same F T st0 C0))))
theorem letters_ok {s : Str} (h : Letters s) : PyData.strOk s = true := by
  show s.cps.all (· < 0x110000) = true
  rw [← Array.all_toList, List.all_eq_true]
  intro c hc
  have := (h c hc).2
  exact decide_eq_true (by omega)
theorem fs_scal {r : RV} (h : r.Txt) : ∀ v ∈ r.fs, Scal v := by
  intro v hv
  have ep : Scal (prV r.part) := by
    cases r.part with
    | none => exact .non
    | some i => exact .int i
  simp only [RV.fs, List.mem_cons, List.not_mem_nil, or_false] at hv
  rcases hv with e | e | e | e | e | e | e | e <;> rw [e]
  · exact .int _
  · exact .str h.2
  · exact .str (side_ok h.1)
  · exact .int _
  · exact ep
  · exact .int _
  · exact .int _
  · exact .int _
theorem rows_same {H : Hp} {g : V → RV} {L : List V} {q D : Addr} (hq : H q = some (.lst L)) (hD : H D = some (.lst L)) (hl : L.length ≤ 100000) (hr : ∀ x ∈ L, RowAt H g x) (ht : ∀ x ∈ L, (g x).Txt) : SamI inn2 H (.ref q) (.ref D) :=
  .inr ⟨q, D, L, rfl, rfl, .inl ⟨hq, hD⟩, hl, fun x hx => by
    obtain ⟨t, e, h⟩ := hr x hx
    exact .inr ⟨t, t, (g x).fs, e, e, .inr ⟨h, h⟩, (by show 8 ≤ 100000; decide), fun v hv => .inl ⟨rfl, fs_scal (ht x hx) v hv⟩⟩⟩
theorem nil_shaped : SeqAt.shaped (.list []) = true := by decide +kernel
theorem nil_eqv : PyData.eqv (.list []) (.list []) = true := by decide +kernel
theorem tabs_upd {T : List (Addr × Str)} {H : Hp} {q : Addr} {xs ys : List V} (t : LamX.Tabs T H) (hq : H q = some (.lst xs)) : LamX.Tabs T (upd H q (.lst ys)) := fun p hp => by
  obtain ⟨ps, h1, h2, h3⟩ := t p hp
  refine ⟨ps, ?_, h2, fun pos cv hc => ?_⟩
  · rw [upd_ne (fun e => by rw [e, hq] at h1; cases h1)]
    exact h1
  · obtain ⟨c, e, hc⟩ := h3 pos cv hc
    refine ⟨c, e, ?_⟩
    rw [upd_ne (fun e => by rw [e, hq] at hc; cases hc)]
    exact hc
theorem cut_last {L : List V} {x : V} : cutV (L ++ [x]) none (some (-1)) = L := by
  unfold cutV
  rw [HT.sIx_none, List.drop_zero, Nat.sub_zero]
  have e : HT.sIx (L ++ [x]).length (L ++ [x]).length (some (-1)) = L.length := by
    show (if (-1 : Int) < 0 then ((-1 : Int) + ((L ++ [x]).length : Int)).toNat else min (-1 : Int).toNat (L ++ [x]).length) = _
    rw [if_pos (by decide), List.length_append]
    show ((-1 : Int) + ((L.length + 1 : Nat) : Int)).toNat = _
    omega
  rw [e, List.take_left]
def rTupOf (K : PySem.W.Frag) : List V → Hp → VK → Prop := fun xs H Q => ∃ p ys, xs = [.ref p] ∧ ((SqL K H p ys ∧ ∀ l, H l = none → Q (.ref l) (upd H l (.tup ys))) ∨ (SqT K H p ys ∧ Q (.ref p) H))
def spLaw (K : PySem.W.Frag) (PA : Addr) : Sp := fun vs H Q _ => ∃ (a : Addr) (ns : List Int), vs = [.ref a] ∧ SqL K H a (ns.map V.int) ∧ ns.length ≤ 63 ∧ LamX.Tabs (tabsOf PA) H ∧ ∀ H', Q (.bl true) H'
abbrev s_law : Stmt := topS 12
theorem sc_law : FnScope ["script", "k", "purse", "names", "rows", "handed", "told", "row", "at"] ["script"] (defScope s_law) := ⟨rfl, rfl, rfl, by decide +kernel, rfl, by decide +kernel, by decide +kernel⟩
theorem ok_law {f PA : Addr} {fd : FuncData} (F : Fun K "law" "law" s_law f fd) (T : Txt mg) (c_purse : Cal P w K mg base 1 "_law_purse" ["script", "k"] (spPurse K)) (c_coin : Cal P w K mg base 1 "_law_coin" ["purse", "many"] spCoin)
    (c_names : Cal P w K mg base 2 "_law_names" ["purse", "many"] spNames) (c_rows : Cal P w K mg base 3 "_law_rows" ["purse", "names", "many", "way"] spRows) (c_ranked : Cal P w K mg base 2 "ranked" ["rows"] (spRanked K (tabsOf PA)))
    (c_same : Cal P w K mg base 6 "_law_same" ["this", "that"] (spSame (SamI inn2))) (c_better : Cal P w K mg base 1 "_law_better" ["one", "other"] spBetter) : FnOk P w K mg base CX0 7 f fd ["script"] (spLaw K PA) := by
  refine F.ok sc_law (fun vs H Q E h => ?_) (fun cdv A outer s H vs Q E hr h => ?_)
  · obtain ⟨a, ns, rfl, _⟩ := h
    rfl
  · obtain ⟨a, ns, rfl, hS, hlen, hT, k⟩ := h
    obtain ⟨f_purse, fd_purse, G_purse, m_purse, k_purse, b_purse⟩ := c_purse
    obtain ⟨f_coin, fd_coin, G_coin, m_coin, k_coin, b_coin⟩ := c_coin
    obtain ⟨f_names, fd_names, G_names, m_names, k_names, b_names⟩ := c_names
    obtain ⟨f_rows, fd_rows, G_rows, m_rows, k_rows, b_rows⟩ := c_rows
    obtain ⟨f_ranked, fd_ranked, G_ranked, m_ranked, k_ranked, b_ranked⟩ := c_ranked
    obtain ⟨f_same, fd_same, G_same, m_same, k_same, b_same⟩ := c_same
    obtain ⟨f_better, fd_better, G_better, m_better, k_better, b_better⟩ := c_better
    have hu65 : (A.deeper (PyProof.Rows.envOfC "law" (defScope s_law) s.heap.objs.size f cdv)).units + 65 < cLine := by
      have := hr.un
      omega
    refine ⟨_, (pss_cons (ps_for PassesOwn.never rfl (pi_range1 rfl T.b_range (pa_cons (pe_callB (call_max2 rfl) (by rfl) T.b_max (by decide +kernel) (pa_cons pe_int (pa_cons (pe_callB (call_min2 rfl) (by rfl) T.b_min (by decide +kernel) (pa_cons pe_int (pa_cons (pe_callB call_len_seq (by rfl) T.b_len PySem.boot_len (pa_cons (pv 0) pa_nil)) pa_nil))) pa_nil))) pa_nil)) (pg_name (i := 1) sc_law.nd rfl (Or.inl rfl))
           (pss_cons (ps_set (i := 2) sc_law.nd rfl (Or.inl rfl) (pe_call G_purse (hr.mono (by decide)) rfl m_purse k_purse b_purse .nil pass0 (pa_cons (pv 0) (pa_cons (pv 1) pa_nil))))
            (pss_cons (ps_set (i := 3) sc_law.nd rfl (Or.inl rfl) (pe_call G_names (hr.mono (by decide)) rfl m_names k_names b_names .nil pass0 (pa_cons (pv 2) (pa_cons (pe_op op_add pe_int (pe_call G_coin (hr.mono (by decide)) rfl m_coin k_coin b_coin .nil pass0 (pa_cons (pv 2) (pa_cons pe_int pa_nil)))) pa_nil))))
            (pss_cons (ps_set (i := 4) sc_law.nd rfl (Or.inl rfl) (pe_ix ix_tup (pe_call G_rows (hr.mono (by decide)) rfl m_rows k_rows b_rows .nil pass0 (pa_cons (pv 2) (pa_cons (pv 3) (pa_cons (pe_call G_coin (hr.mono (by decide)) rfl m_coin k_coin b_coin .nil pass0 (pa_cons (pv 2) (pa_cons pe_int pa_nil))) (pa_cons (pe_call G_coin (hr.mono (by decide)) rfl m_coin k_coin b_coin .nil pass0 (pa_cons (pv 2) (pa_cons pe_int pa_nil))) pa_nil))))) pe_int (fun _ _ => rfl)))
            (pss_cons (ps_set (i := 5) sc_law.nd rfl (Or.inl rfl) (pe_callTy call_list_of (by rfl) T.b_list (by decide +kernel) (pa_cons (pv 4) pa_nil)))
            (pss_cons (ps_set (i := 6) sc_law.nd rfl (Or.inr rfl) (pe_call G_ranked (hr.mono (by decide)) rfl m_ranked k_ranked b_ranked .nil pass0 (pa_cons (pv 5) pa_nil)))
            (pss_cons (ps_if (PW.pt (pw_or (pt_not (pt_val (pe_callB call_isi (by rfl) T.b_isinstance (by decide +kernel) (pa_cons (pv 6) (pa_cons (pe_bltn (v := .ty "list") (by rfl) T.b_list (by decide +kernel) rfl) pa_nil))))) (pw_or (pt_cmpR (op_neD hr.units) (pv 5) (pv 4) (nomark _)) (pw_or1 (pt_cmpR op_ne (pe_callB call_len_seq (by rfl) T.b_len PySem.boot_len (pa_cons (pv 6) pa_nil)) (pe_callB call_len_seq (by rfl) T.b_len PySem.boot_len (pa_cons (pv 4) pa_nil)) (nomark _)))))) (pss_one (ps_ret pe_bl)) pss_nil)
            (pss_cons (ps_if (PW.pt (pw_or (pt_cmpR (op_neD hr.units) (pe_lc (own := [("row", 7)]) (g := gName 7) rfl sc_law.nd (pi_list (pv 4)) (blkOk_by (N := ["script", "k", "purse", "names", "rows", "handed", "told", "row", "at"]) (sc := defScope s_law) (by decide +kernel)) (fun _ _ _ _ _ => (pg_name (i := 7) sc_law.nd rfl (Or.inl rfl))) (fun _ _ _ _ _ => (pts_one (pt_cmpR op_ne (show PE _ _ (tBM K "list" (rCntD K) (tVar 6) (tCons (tVar 7) tNil)) from pe_bm PySem.F.plainAttrs_list PySem.F.slot_list_count PySem.F.type_list_count (mt_countD hu65) (pv 6) (pa_cons (pv 7) pa_nil)) pe_int (nomark _)))) (fun _ _ _ _ _ => (pv 7))) (pe_lst pa_nil) (nomark _)) (pw_or1 (pt_not (pt_val (pe_call G_same (hr.mono (by decide)) rfl m_same k_same b_same .nil pass0 (pa_cons (pv 6) (pa_cons (pe_lc (own := [("row", 7)]) (g := gName 7) (tt := tYes) rfl sc_law.nd (pi_list (pv 6)) (blkOk_by (N := ["script", "k", "purse", "names", "rows", "handed", "told", "row", "at"]) (sc := defScope s_law) (by decide +kernel)) (fun _ _ _ _ _ => (pg_name (i := 7) sc_law.nd rfl (Or.inl rfl))) (fun _ _ _ _ _ => pts_nil) (fun _ _ _ _ _ => (show PE _ _ (tCB (rTupOf K) (tCons (tVar 7) tNil)) from pe_callTy call_tuple_of (by rfl) T.b_tuple (by decide +kernel) (pa_cons (pv 7) pa_nil)))) pa_nil)))))))) (pss_one (ps_ret pe_bl)) pss_nil)
            (pss_cons (ps_if (pt_not (pt_val (pe_callB (cr_all rfl) (by rfl) T.b_all (by decide +kernel) (pa_cons (pe_lc (own := [("at", 8)]) (g := gName 8) (tt := tYes) rfl sc_law.nd (pi_range1 rfl T.b_range (pa_cons (pe_op op_sub (pe_callB call_len_seq (by rfl) T.b_len PySem.boot_len (pa_cons (pv 6) pa_nil)) pe_int) pa_nil)) (blkOk_by (N := ["script", "k", "purse", "names", "rows", "handed", "told", "row", "at"]) (sc := defScope s_law) (by decide +kernel)) (fun _ _ _ _ _ => (pg_name (i := 8) sc_law.nd rfl (Or.inl rfl))) (fun _ _ _ _ _ => pts_nil) (fun _ _ _ _ _ => (pe_call G_better (hr.mono (by decide)) rfl m_better k_better b_better .nil pass0 (pa_cons (pe_ix (r := rIxL K) ix_list (pv 6) (pv 8) (fun _ _ => rfl)) (pa_cons (pe_ix (r := rIxL K) ix_list (pv 6) (pe_op op_add (pv 8) pe_int) (fun _ _ => rfl)) pa_nil))))) pa_nil)))) (pss_one (ps_ret pe_bl)) pss_nil)
            (pss_cons (ps_expr (pe_bm PySem.F.plainAttrs_list PySem.F.slot_list_append PySem.F.type_list_append mt_append (pv 6) (pa_cons pe_non pa_nil)))
            (pss_one (ps_if (pt_cmpR (op_neD hr.units) (pe_call G_ranked (hr.mono (by decide)) rfl m_ranked k_ranked b_ranked .nil pass0 (pa_cons (pv 5) pa_nil)) (pe_slice sl_list (pv 6) po_none (po_some (pe_un un_neg pe_int))) (nomark _)) (pss_one (ps_ret pe_bl)) pss_nil))))))))))))
          (pss_one (ps_ret pe_bl))), ?_⟩
    have hl' : ((ns.map V.int).length : Int) = (ns.length : Int) := by rw [List.length_map]
    refine ⟨_, rfl, _, _, rfl, .inl hS, _, _, rfl, _, _, rfl, _, rfl, ?lo, ?hi, ?_⟩
    case lo => rw [hl']; split <;> split <;> omega
    case hi => rw [hl']; split <;> split <;> omega
    rw [hl']
    refine for_range (lo := 0) (fun i σ H' => ∃ v1 v2 v3 v4 v5 v6 v7 v8, σ = [some (.ref a), v1, v2, v3, v4, v5, v6, v7, v8] ∧ LamX.ExtN H H' ∧ LamX.Tabs (tabsOf PA) H') ⟨_, _, _, _, _, _, _, _, rfl, LamX.ExtN.refl H, hT⟩ ?_ ?_
    · rintro i σ H1 hi ⟨v1, v2, v3, v4, v5, v6, v7, v8, rfl, x1, t1⟩
      have hi8 : (0 : Int) + (i : Int) < 64 := by
        have h3 := hi
        revert h3
        split <;> split <;> intro h3 <;> omega
      refine ⟨_, rfl, _, rfl, a, ns, _, rfl, extN_L x1 hS, hlen, by omega, hi8, fun p H2 np s2 u2 => ?_⟩
      refine ⟨_, rfl, _, rfl, p, _, _, rfl, u2, by omega, by decide, by decide, fun r1 H3 r1a r1b u3 k3 => ⟨_, _, rfl, rfl, p, _, _, rfl, u3, by omega, by omega, by omega, fun q1 ns1 H4 nq1 hl1 hN1 hq1 u4 k4 => ?_⟩⟩
      have u4' := u4.mono (show (0 : Int) + 1 + 9 * (1 + r1) ≤ 40 by omega)
      have qp : q1 ≠ p := u3.ne nq1
      refine ⟨_, rfl, _, rfl, _, rfl, p, _, _, rfl, u4', by omega, by decide, by decide, fun r2 H5 r2a r2b u5 k5 => ⟨_, rfl, p, _, _, rfl, u5, by omega, by decide, by decide, fun r3 H6 r3a r3b u6 k6 => ?_⟩⟩
      have hq6 := k6 _ _ qp (k5 _ _ qp hq1)
      refine ⟨p, q1, ns1, r2, r3, _, rfl, u6, hq6, by omega, by omega, (fun s hs => letters_ok (hN1 s hs).2.2), r2a, by omega, r3a, r3b, by omega, fun t b st g xs H7 ht hb nb hxl ok u7 k7 => ⟨t, _, _, _, rfl, rfl, SqT.of ht, rfl, ?_⟩⟩
      have s7 : Same H1 H7 := Same.keep s2 ((k3.trans k4).trans ((k5.trans k6).trans k7)) np
      have t7 := t1.ext s7
      refine ⟨_, rfl, _, _, rfl, .inl (SqL.of hb), fun hd nhd => ?_⟩
      obtain ⟨H8, e8⟩ : ∃ H8, H8 = upd H7 hd (.lst xs) := ⟨_, rfl⟩
      have s8 : Same H7 H8 := e8 ▸ Same.new nhd
      have hd8 : H8 hd = some (.lst xs) := by rw [e8]; exact upd_same
      have t8 := t7.ext s8
      have row8 : ∀ x ∈ xs, RowAt H8 g x := fun x hx => by
        obtain ⟨u, e1, e2⟩ := (ok.1 x hx).1
        exact ⟨u, e1, s8 _ _ e2⟩
      have txt : ∀ x ∈ xs, (g x).Txt := fun x hx => (ok.1 x hx).2
      rw [← e8]
      refine ⟨_, rfl, hd, g, xs, rfl, SqL.of hd8, by omega, row8, t8, fun q H9 nq hq9 x9 t9 => ?_⟩
      have perm := ranked_perm txt
      obtain ⟨L, eL⟩ : ∃ L, L = rankedL g xs := ⟨_, rfl⟩
      have betterL := ranked_better txt ok.2
      rw [← eL] at hq9 perm betterL
      have lenL : L.length = xs.length := perm.length_eq
      have hd9 : H9 hd = some (.lst xs) := x9 _ _ hd8 (fun ps z => by cases z)
      have b8 : H8 b = some (.lst xs) := s8 _ _ hb
      have b9 : H9 b = some (.lst xs) := x9 _ _ b8 (fun ps z => by cases z)
      have row9 : ∀ x ∈ xs, RowAt H9 g x := fun x hx => by
        obtain ⟨u, e1, e2⟩ := row8 x hx
        exact ⟨u, e1, x9 _ _ e2 (fun ps z => by cases z)⟩
      have rowL : ∀ x ∈ L, RowAt H9 g x := fun x hx => row9 x (perm.mem_iff.mp hx)
      have txtL : ∀ x ∈ L, (g x).Txt := fun x hx => txt x (perm.mem_iff.mp hx)
      have ne9 : LamX.ExtN H H9 := (x1.trans (LamX.ExtN.of (s7.trans s8))).trans x9
      have dpX : ∀ {h : Hp}, Same H9 h → ∀ {c : Addr}, h c = some (.lst xs) → Dp K h (.ref c) (.list (xs.map fun x => (g x).dat)) := fun s c e => .lst (SqL.of e) (rows_dp fun x hx => by
        obtain ⟨u, e1, e2⟩ := row9 x hx
        exact ⟨u, e1, s _ _ e2⟩)
      have dpL : ∀ {h : Hp}, Same H9 h → ∀ {c : Addr}, h c = some (.lst L) → Dp K h (.ref c) (.list (L.map fun x => (g x).dat)) := fun s c e => .lst (SqL.of e) (rows_dp fun x hx => by
        obtain ⟨u, e1, e2⟩ := rowL x hx
        exact ⟨u, e1, s _ _ e2⟩)
      refine ⟨_, rfl, _, _, _, _, true, rfl, .ty "list", .base (.lst hq9), kit_ty (by decide +kernel), _, rfl, ?_⟩
      refine iteF ⟨_, rfl, _, rfl, _, _, dpX (Same.refl H9) hd9, dpX (Same.refl H9) b9, dats_shaped txt, dats_shaped txt, ?_⟩
      rw [dats_self txt]
      refine ⟨_, rfl, iteF ⟨_, rfl, _, _, rfl, .inl (SqL.of hq9), _, rfl, _, _, rfl, .inl (SqL.of b9), rfl, ?_⟩⟩
      refine ⟨_, rfl, iteNS (by rw [lenL]) ?_⟩
      have pairL : L.Pairwise fun a b => (g a).num ≠ (g b).num ∧ (g a).rank ≠ (g b).rank := (perm.pairwise_iff (fun {x y} z => ⟨z.1.symm, z.2.symm⟩)).mpr ok.2
      refine ⟨_, rfl, b, rfl, ⟨_, SqL.of b9⟩, fun D nD => ?_⟩
      have sD : ∀ {o : HO}, Same H9 (upd H9 D o) := Same.new nD
      refine lc_list (K := K) (a := b) (xs := xs) (fun i h => h = upd H9 D (.lst [])) rfl (fun i h _ e => by rw [e]; exact SqL.of (sD _ _ b9)) ?_ ?_
      · rintro j x h hx rfl
        have hxL : x ∈ L := perm.mem_iff.mpr (List.mem_of_getElem? hx)
        have rx : RowAt (upd H9 D (.lst [])) g x := by
          obtain ⟨u, e1, e2⟩ := rowL x hxL
          exact ⟨u, e1, sD _ _ e2⟩
        refine ⟨rfl, _, rfl, .inl ⟨rfl, _, SqL.of (sD _ _ hq9)⟩, _, rfl, q, x, _, _, rfl, rfl, dpL sD (sD _ _ hq9), row_dp rx, dats_shaped txtL, RV.shaped (txtL x hxL), ?_⟩
        rw [count_one txtL pairL hxL]
        exact ⟨rfl, _, rfl, iteNS rfl rfl⟩
      rintro h rfl
      refine ⟨Nat.zero_le _, fun D1 nD1 => ?_⟩
      have D1D : D ≠ D1 := ne_of_none upd_same nD1
      refine ⟨.list [], .list [], .lst (SqL.of (show upd (upd H9 D (.lst [])) D1 (.lst []) D = some (.lst []) by rw [upd_ne D1D]; exact upd_same)) .nil, .lst (SqL.of upd_same) .nil, nil_shaped, nil_shaped, ?_⟩
      rw [nil_eqv]
      obtain ⟨Ha, ea⟩ : ∃ Ha, Ha = upd (upd H9 D (.lst [])) D1 (.lst []) := ⟨_, rfl⟩
      have sA : Same H9 Ha := ea ▸ (Same.new nD).trans (Same.new nD1)
      rw [← ea]
      have qA := sA _ _ hq9
      refine ⟨_, rfl, iteF ⟨_, rfl, _, rfl, q, rfl, ⟨_, SqL.of qA⟩, fun D2 nD2 => ?_⟩⟩
      refine lc_list (K := K) (a := q) (xs := L) (fun i h => h = upd Ha D2 (.lst (L.take i))) rfl (fun i h _ e => by rw [e]; exact SqL.of (Same.new nD2 _ _ qA)) ?_ ?_
      · rintro j x h hx rfl
        obtain ⟨u, e1, e2⟩ := rowL x (List.mem_of_getElem? hx)
        refine ⟨rfl, yesC ⟨_, rfl, u, _, by rw [e1], .inr ⟨SqT.of (Same.new nD2 _ _ (sA _ _ e2)), _, upd_same, ?_, ?_⟩⟩⟩
        · rw [List.length_take]
          exact Nat.lt_of_lt_of_le (show min j L.length < 100001 by omega) (by decide)
        · rw [upd_upd, List.take_succ, hx, e1]
          rfl
      rintro h rfl
      rw [List.take_length]
      have sB : Same H9 (upd Ha D2 (.lst L)) := sA.trans (Same.new nD2)
      refine ⟨_, _, rfl, rows_same (g := g) (sB _ _ hq9) upd_same (by omega) (fun x hx => ?_) txtL, fun Hc sC => ?_⟩
      · obtain ⟨u, e1, e2⟩ := rowL x hx
        exact ⟨u, e1, sB _ _ e2⟩
      have sC9 : Same H9 Hc := sB.trans sC
      refine ⟨_, rfl, iteF ?_⟩
      have qC := sC9 _ _ hq9
      refine ⟨_, rfl, _, _, rfl, .inl (SqL.of qC), _, _, rfl, rfl, _, rfl, by omega, by omega, fun D3 nD3 => ?_⟩
      have qD3 : q ≠ D3 := ne_of_none qC nD3
      refine lc_range (lo := 0) (fun j h => h D3 = some (.lst (List.replicate j (.bl true))) ∧ Same Hc h) ⟨upd_same, Same.new nD3⟩ ?_ ?_
      · rintro j h hj ⟨hD, sh⟩
        have hj2 : j + 1 < L.length := by
          have : j < ((L.length : Int) - 1).toNat := hj
          omega
        have hj1 : j < L.length := by omega
        obtain ⟨u, e1, e2⟩ := rowL L[j] (List.getElem_mem _)
        obtain ⟨u', e1', e2'⟩ := rowL L[j + 1] (List.getElem_mem _)
        have a1 : atI L (0 + (j : Int)) = some L[j] := by
          rw [Int.zero_add]
          exact atI_nat (List.getElem?_eq_getElem hj1)
        have a2 : atI L (0 + (j : Int) + 1) = some L[j + 1] := by
          rw [show (0 + (j : Int) + 1) = ((j + 1 : Nat) : Int) by omega]
          exact atI_nat (List.getElem?_eq_getElem hj2)
        have bt := List.pairwise_iff_getElem.mp betterL j (j + 1) hj1 hj2 (Nat.lt_succ_self j)
        refine ⟨rfl, yesC ⟨_, rfl, _, rfl, q, _, _, _, rfl, rfl, SqL.of (sh _ _ qC), a1, _, rfl, _, rfl, _, _, rfl, rfl, q, _, _, _, rfl, rfl, SqL.of (sh _ _ qC), a2, u, u', g L[j], g L[j + 1], by rw [e1, e1']; rfl, sh _ _ (sC9 _ _ e2), sh _ _ (sC9 _ _ e2'), ?_⟩⟩
        rw [bt]
        refine ⟨_, hD, by rw [List.length_replicate]; exact Nat.lt_of_lt_of_le (show j < 100001 by omega) (by decide), ?_, fun c o e => ?_⟩
        · rw [upd_same, List.replicate_succ']
        · rw [upd_ne (ne_of_none e nD3)]
          exact sh _ _ e
      rintro Hd ⟨hD, sD3⟩
      refine ⟨D3, List.replicate ((L.length : Int) - 1).toNat true, rfl, SqL.of (by rw [List.map_replicate]; exact hD), ?_⟩
      rw [show (List.replicate ((L.length : Int) - 1).toNat true).all id = true by simp]
      have sD9 : Same H9 Hd := sC9.trans sD3
      have qd := sD9 _ _ hq9
      refine ⟨_, rfl, iteF ?_⟩
      refine ⟨_, rfl, .inl ⟨rfl, _, SqL.of qd⟩, q, _, _, rfl, rfl, qd, ?_, ?_⟩
      · exact Nat.lt_of_lt_of_le (show L.length < 100001 by omega) (by decide)
      have te := tabs_upd (ys := L ++ [.non]) (t9.ext sD9) qd
      have xe : LamX.ExtN H8 (upd Hd q (.lst (L ++ [.non]))) := fun b o e no => by
        rw [upd_ne (fun z => by
          rw [z] at e
          obtain ⟨ps, z2⟩ := nq o e
          exact no ps z2)]
        exact sD9 _ _ (x9 _ _ e no)
      obtain ⟨He, ee⟩ : ∃ He, He = upd Hd q (.lst (L ++ [.non])) := ⟨_, rfl⟩
      have qe : He q = some (.lst (L ++ [.non])) := by rw [ee]; exact upd_same
      rw [← ee] at te xe ⊢
      have rowE : ∀ x ∈ xs, RowAt He g x := fun x hx => by
        obtain ⟨u, e1, e2⟩ := row8 x hx
        exact ⟨u, e1, xe _ _ e2 (fun ps z => by cases z)⟩
      have hde := xe _ _ hd8 (fun ps z => by cases z)
      refine ⟨_, rfl, hd, g, xs, rfl, SqL.of hde, by omega, rowE, te, fun q' Hf nq' hq' xf tf => ?_⟩
      rw [← eL] at hq'
      have qf := xf _ _ qe (fun ps z => by cases z)
      refine ⟨_, rfl, _, rfl, _, rfl, q, _, rfl, SqL.of qf, fun p2 np2 => ?_⟩
      have s2f : Same Hf (upd Hf p2 (.lst (cutV (L ++ [.non]) none (some (-1))))) := Same.new np2
      have rowG : ∀ x ∈ L, RowAt (upd Hf p2 (.lst (cutV (L ++ [.non]) none (some (-1))))) g x := fun x hx => by
        obtain ⟨u, e1, e2⟩ := rowE x (perm.mem_iff.mp hx)
        exact ⟨u, e1, s2f _ _ (xf _ _ e2 (fun ps z => by cases z))⟩
      refine ⟨_, _, .lst (SqL.of (s2f _ _ hq')) (rows_dp rowG), .lst (xs := L) (SqL.of (by rw [upd_same, cut_last])) (rows_dp rowG), dats_shaped txtL, dats_shaped txtL, ?_⟩
      rw [dats_self txtL]
      refine ⟨_, rfl, iteF ?_⟩
      exact ⟨_, _, _, _, _, _, _, _, rfl, ((x1.trans (LamX.ExtN.of (s7.trans s8))).trans xe).trans (xf.trans (LamX.ExtN.of s2f)), tf.ext s2f⟩
    · rintro σ H1 ⟨v1, v2, v3, v4, v5, v6, v7, v8, rfl, x1, t1⟩
      exact k H1

end
/-! ### what the top has written, the end -/
theorem all_mk {l : PySem.W.OpenLaw} {w : World} {K : PySem.W.Frag} {h : Heap} {mg : Str → Option Value} {fa f1 f2 f3 f4 f5 f6 f7 f8 f9 cC PA : Addr} (X : K.In h) (G : h.Ns mainGlobals mg) (hfa : mg "law" = some (.ref fa))
    {od1 an1 od2 an2 od3 an3 od4 an4 od5 an5 od6 an6 od7 an7 od8 an8 od9 an9 : Option Addr} {sl1 sl2 sl3 sl4 sl5 sl6 sl7 sl8 sl9 : Array (Option Value)} {oc1 kV1 dc1 pm1 cd1 ct1 oc2 kV2 dc2 pm2 cd2 ct2 oc3 kV3 dc3 pm3 cd3 ct3 oc4 kV4 dc4 pm4 cd4 ct4 oc5 kV5 dc5 pm5 cd5 ct5 oc6 kV6 dc6 pm6 cd6 ct6 oc7 kV7 dc7 pm7 ct7 oc8 kV8 dc8 pm8 cd8 ct8 oc9 kV9 dc9 pm9 cd9 ct9 : Value}
    (a1 : PySem.W.nsIn K mainGlobals "_law_purse" = some (some (.ref f1))) (l1 : K.lookup f1 = some ⟨oc1, od1, .func (PySem.W.fnOf "_law_purse" "_law_purse" (defArgs s_law_purse) (defBody s_law_purse) (defScope s_law_purse) .none kV1 dc1 pm1 an1 cd1 ct1), sl1⟩) (c1 : PySem.W.codeIn K cd1 "_law_purse" = true) (k1 : PySem.W.keepIn K (.ref f1) = true)
    (a2 : PySem.W.nsIn K mainGlobals "_law_coin" = some (some (.ref f2))) (l2 : K.lookup f2 = some ⟨oc2, od2, .func (PySem.W.fnOf "_law_coin" "_law_coin" (defArgs s_law_coin) (defBody s_law_coin) (defScope s_law_coin) .none kV2 dc2 pm2 an2 cd2 ct2), sl2⟩) (c2 : PySem.W.codeIn K cd2 "_law_coin" = true) (k2 : PySem.W.keepIn K (.ref f2) = true)
    (a3 : PySem.W.nsIn K mainGlobals "_law_names" = some (some (.ref f3))) (l3 : K.lookup f3 = some ⟨oc3, od3, .func (PySem.W.fnOf "_law_names" "_law_names" (defArgs s_law_names) (defBody s_law_names) (defScope s_law_names) .none kV3 dc3 pm3 an3 cd3 ct3), sl3⟩) (c3 : PySem.W.codeIn K cd3 "_law_names" = true) (k3 : PySem.W.keepIn K (.ref f3) = true)
    (a4 : PySem.W.nsIn K mainGlobals "_law_better" = some (some (.ref f4))) (l4 : K.lookup f4 = some ⟨oc4, od4, .func (PySem.W.fnOf "_law_better" "_law_better" (defArgs s_law_better) (defBody s_law_better) (defScope s_law_better) .none kV4 dc4 pm4 an4 cd4 ct4), sl4⟩) (c4 : PySem.W.codeIn K cd4 "_law_better" = true) (k4 : PySem.W.keepIn K (.ref f4) = true)
    (a5 : PySem.W.nsIn K mainGlobals "_law_level" = some (some (.ref f5))) (l5 : K.lookup f5 = some ⟨oc5, od5, .func (PySem.W.fnOf "_law_level" "_law_level" (defArgs s_law_level) (defBody s_law_level) (defScope s_law_level) .none kV5 dc5 pm5 an5 cd5 ct5), sl5⟩) (c5 : PySem.W.codeIn K cd5 "_law_level" = true) (k5 : PySem.W.keepIn K (.ref f5) = true)
    (a6 : PySem.W.nsIn K mainGlobals "_law_rows" = some (some (.ref f6))) (l6 : K.lookup f6 = some ⟨oc6, od6, .func (PySem.W.fnOf "_law_rows" "_law_rows" (defArgs s_law_rows) (defBody s_law_rows) (defScope s_law_rows) .none kV6 dc6 pm6 an6 cd6 ct6), sl6⟩) (c6 : PySem.W.codeIn K cd6 "_law_rows" = true) (k6 : PySem.W.keepIn K (.ref f6) = true)
    (a7 : PySem.W.nsIn K mainGlobals "ranked" = some (some (.ref f7))) (l7 : K.lookup f7 = some ⟨oc7, od7, .func (PySem.W.fnOf "ranked" "ranked" (defArgs s_ranked) (defBody s_ranked) (defScope s_ranked) .none kV7 dc7 pm7 an7 (.ref cC) ct7), sl7⟩) (c7 : PySem.W.codeIn K (.ref cC) "ranked" = true) (k7 : PySem.W.keepIn K (.ref f7) = true)
    (a8 : PySem.W.nsIn K mainGlobals "_law_same" = some (some (.ref f8))) (l8 : K.lookup f8 = some ⟨oc8, od8, .func (PySem.W.fnOf "_law_same" "_law_same" (defArgs s_law_same) (defBody s_law_same) (defScope s_law_same) .none kV8 dc8 pm8 an8 cd8 ct8), sl8⟩) (c8 : PySem.W.codeIn K cd8 "_law_same" = true) (k8 : PySem.W.keepIn K (.ref f8) = true)
    (a9 : PySem.W.nsIn K mainGlobals "law" = some (some (.ref f9))) (l9 : K.lookup f9 = some ⟨oc9, od9, .func (PySem.W.fnOf "law" "law" (defArgs s_law) (defBody s_law) (defScope s_law) .none kV9 dc9 pm9 an9 cd9 ct9), sl9⟩) (c9 : PySem.W.codeIn K cd9 "law" = true) (k9 : PySem.W.keepIn K (.ref f9) = true)
    (z0 : PySem.W.nsIn K mainGlobals "len" = some none)
    (z1 : PySem.W.nsIn K mainGlobals "max" = some none)
    (z2 : PySem.W.nsIn K mainGlobals "min" = some none)
    (z3 : PySem.W.nsIn K mainGlobals "range" = some none)
    (z4 : PySem.W.nsIn K mainGlobals "bool" = some none)
    (z5 : PySem.W.nsIn K mainGlobals "isinstance" = some none)
    (z6 : PySem.W.nsIn K mainGlobals "int" = some none)
    (z7 : PySem.W.nsIn K mainGlobals "all" = some none)
    (z8 : PySem.W.nsIn K mainGlobals "list" = some none)
    (z9 : PySem.W.nsIn K mainGlobals "tuple" = some none)
    (z10 : PySem.W.nsIn K mainGlobals "zip" = some none)
    (z11 : PySem.W.nsIn K mainGlobals "sorted" = some none)
    {t0 : Tok} (gl_0 : PySem.W.nsIn K mainGlobals "BUY" = some (some (.str "buy" t0)))
    {t1 : Tok} (gl_1 : PySem.W.nsIn K mainGlobals "SELL" = some (some (.str "sell" t1)))
    {ocC : Value} {odC : Option Addr} {vsC : Array Value} {slC : Array (Option Value)} (lc : K.lookup cC = some ⟨ocC, odC, .fields vsC, slC⟩) (vP : (vsC[11]? : Option Value) = some (.ref PA)) (nP : K.lookup PA = none)
    : ∃ (c P : Addr) (fd : FuncData), PySem.W.tabIn K "ranked" = some (c, P) ∧ K.lookup P = none ∧ (∀ (s : Shared) (v : Value), BindsTo s fd ⟨[v], []⟩ [("script", v)]) ∧
      ∀ base : Heap, K.In base → base.Ns mainGlobals mg → LamX.TabB base mg c P → FnOk l.prog w K mg base CX0 7 fa fd ["script"] (spLaw K P) := by
  have tb : PySem.W.tabIn K "ranked" = some (cC, PA) := by
    unfold PySem.W.tabIn
    rw [a7]
    simp only
    rw [l7]
    simp only [PySem.W.fnOf]
    rw [lc]
    simp only
    rw [vP]
  have e := hfa.symm.trans (PySem.W.mg_of X G a9)
  cases e
  have T : Txt mg := ⟨PySem.W.mg_none_of X G z0, PySem.W.mg_none_of X G z1, PySem.W.mg_none_of X G z2, PySem.W.mg_none_of X G z3, PySem.W.mg_none_of X G z4, PySem.W.mg_none_of X G z5, PySem.W.mg_none_of X G z6, PySem.W.mg_none_of X G z7, PySem.W.mg_none_of X G z8, PySem.W.mg_none_of X G z9, PySem.W.mg_none_of X G z10, PySem.W.mg_none_of X G z11, ⟨_, PySem.W.mg_of X G gl_0⟩, ⟨_, PySem.W.mg_of X G gl_1⟩⟩
  have F1 := fun_mk (st := s_law_purse) l1 c1 k1
  have b1 := F1.binds (ps := ["script", "k"]) fun _ _ _ _ _ _ us hl => match us, hl with | [_, _], _ => rfl
  have F2 := fun_mk (st := s_law_coin) l2 c2 k2
  have b2 := F2.binds (ps := ["purse", "many"]) fun _ _ _ _ _ _ us hl => match us, hl with | [_, _], _ => rfl
  have F3 := fun_mk (st := s_law_names) l3 c3 k3
  have b3 := F3.binds (ps := ["purse", "many"]) fun _ _ _ _ _ _ us hl => match us, hl with | [_, _], _ => rfl
  have F4 := fun_mk (st := s_law_better) l4 c4 k4
  have b4 := F4.binds (ps := ["one", "other"]) fun _ _ _ _ _ _ us hl => match us, hl with | [_, _], _ => rfl
  have F5 := fun_mk (st := s_law_level) l5 c5 k5
  have b5 := F5.binds (ps := ["purse", "way"]) fun _ _ _ _ _ _ us hl => match us, hl with | [_, _], _ => rfl
  have F6 := fun_mk (st := s_law_rows) l6 c6 k6
  have b6 := F6.binds (ps := ["purse", "names", "many", "way"]) fun _ _ _ _ _ _ us hl => match us, hl with | [_, _, _, _], _ => rfl
  have F7 := fun_mk (st := s_ranked) l7 c7 k7
  have b7 := F7.binds (ps := ["rows"]) fun _ _ _ _ _ _ us hl => match us, hl with | [_], _ => rfl
  have F8 := fun_mk (st := s_law_same) l8 c8 k8
  have b8 := F8.binds (ps := ["this", "that"]) fun _ _ _ _ _ _ us hl => match us, hl with | [_, _], _ => rfl
  have F9 := fun_mk (st := s_law) l9 c9 k9
  refine ⟨cC, PA, PySem.W.fnOf "law" "law" (defArgs s_law) (defBody s_law) (defScope s_law) .none kV9 dc9 pm9 an9 cd9 ct9, tb, nP, fun s v => .of_eq rfl, fun base _ _ TB => ?_⟩
  have C1 : Cal l.prog w K mg base 1 "_law_purse" ["script", "k"] (spPurse K) := ⟨f1, _, ok_purse F1 T, PySem.W.mg_of X G a1, k1, b1⟩
  have C2 : Cal l.prog w K mg base 1 "_law_coin" ["purse", "many"] (spCoin) := ⟨f2, _, ok_coin F2, PySem.W.mg_of X G a2, k2, b2⟩
  have C3 : Cal l.prog w K mg base 2 "_law_names" ["purse", "many"] (spNames) := ⟨f3, _, ok_names F3 T C2, PySem.W.mg_of X G a3, k3, b3⟩
  have C4 : Cal l.prog w K mg base 1 "_law_better" ["one", "other"] (spBetter) := ⟨f4, _, ok_better F4, PySem.W.mg_of X G a4, k4, b4⟩
  have C5 : Cal l.prog w K mg base 2 "_law_level" ["purse", "way"] (spLevel) := ⟨f5, _, ok_level F5 C2, PySem.W.mg_of X G a5, k5, b5⟩
  have C6 : Cal l.prog w K mg base 3 "_law_rows" ["purse", "names", "many", "way"] (spRows) := ⟨f6, _, ok_rows F6 T C2 C5, PySem.W.mg_of X G a6, k6, b6⟩
  have C7 : Cal l.prog w K mg base 2 "ranked" ["rows"] (spRanked K (tabsOf PA)) := ⟨f7, _, ok_ranked (FunC.mk l7 c7) T TB, PySem.W.mg_of X G a7, k7, b7⟩
  have C8 : Cal l.prog w K mg base 6 "_law_same" ["this", "that"] (spSame (SamI inn2)) := ⟨f8, _, ok_same3 F8 T (PySem.W.mg_of X G a8) k8 b8, PySem.W.mg_of X G a8, k8, b8⟩
  exact ok_law F9 T C1 C2 C3 C6 C7 C8 C4
theorem walk {l : PySem.W.OpenLaw} {q : Program} {loose : List Str} {XP : (Str → Option Value) → Heap → Prop} {YP : World → Heap → Prop} {d : DefRec} {K : Params → PySem.W.Frag} (hn : l.most = some 63) (hdf : d.params.defaults = [])
    (hrec : ∃ dr, (PyProof.Rows.recsOf q).find? (fun e => e.name == ("ranked" : Str)) = some dr) (hY : ∀ (w : World) (h : Heap), YP w h → (K w.params).In h)
    (F : ∀ (w : World) (mg : Str → Option Value) (fa : Addr) (h : Heap), (K w.params).In h → h.Ns mainGlobals mg → mg d.name = some (.ref fa) →
      ∃ (c P : Addr) (fd : FuncData), PySem.W.tabIn (K w.params) "ranked" = some (c, P) ∧ (K w.params).lookup P = none ∧ (∀ (s : Shared) (u : Value), BindsTo s fd ⟨[u], []⟩ [("script", u)]) ∧
        ∀ base : Heap, (K w.params).In base → base.Ns mainGlobals mg → LamX.TabB base mg c P → FnOk l.prog w (K w.params) mg base CX0 7 fa fd ["script"] (spLaw (K w.params) P)) :
    PySem.W.WalkO q loose XP YP l.row.toRowW d [] (fun f vs => PySem.call f vs) := by
  refine Att.attach_callB hn hdf fun w s0 s1 mg mb fa o pm cd doc adr us nums Gr Yh h1 h2 h3 h4 h5 h6 h7 h8 h9 => ?_
  have KX := hY w _ Yh
  obtain ⟨c, P, fd, ht, nT, hb, hF⟩ := F w mg fa _ KX Gr.T.g h4
  obtain ⟨dr, hdr⟩ := hrec
  obtain ⟨hC, hP⟩ := PySem.W.tab_of Gr.T KX hdr ht
  have one : ∀ {Z : Addr × Addr → Prop}, Z (c, P) → ∀ p ∈ [(c, P)], Z p := fun z p hp => by
    rw [List.mem_singleton.mp hp]
    exact z
  refine LamX.law_callTs (cs := [(c, P)]) (CX := CX0) (k := 7) (sp := spLaw (K w.params) P) (x := "script") KX Gr.T.g Gr.T.b Gr.T.builtins Gr.T.nolimit h9 (one hP) (one nT) (one hC) Gr.T.bmain h5 h6 (Nat.le_trans h7 (by decide)) ⟨rfl, by decide, by decide⟩ (fun base k1 k2 tB => hF base k1 k2 (tB _ (List.mem_singleton.mpr rfl))) hb (fun H hT hS => ⟨adr, nums, rfl, hS, h7, fun p hp => ?_, fun _ => rfl⟩) fun _ _ _ z => z
  rw [List.mem_singleton.mp hp]
  exact LamX.TabS.nil (hT _ (List.mem_singleton.mpr rfl))
end Rh
open PySem PySem.W PyProof.Rows
set_option maxRecDepth 100000 in
set_option maxHeartbeats 0 in
theorem PySem.Challenge.cw_ringhall_k05_rows_ranked_holds : PySem.Challenge.rw_ringhall_k05_rows_ranked.Holds := by
  w_on; o_law; k_head; (case hw => w_witness2)
  k_fill
  refine Rh.walk (l := PySem.Challenge.rw_ringhall_k05_rows_ranked) rfl rfl ⟨_, rfl⟩ (fun w h Y => PySem.W.km_in_of Y) ?F
  case F =>
    intro w mg fa h KX G hmg
    refine' Rh.all_mk KX G hmg ?a1 ?l1 ?c1 ?k1 ?a2 ?l2 ?c2 ?k2 ?a3 ?l3 ?c3 ?k3 ?a4 ?l4 ?c4 ?k4 ?a5 ?l5 ?c5 ?k5 ?a6 ?l6 ?c6 ?k6 ?a7 ?l7 ?c7 ?k7 ?a8 ?l8 ?c8 ?k8 ?a9 ?l9 ?c9 ?k9 ?z0 ?z1 ?z2 ?z3 ?z4 ?z5 ?z6 ?z7 ?z8 ?z9 ?z10 ?z11 ?gl_0 ?gl_1 ?lc ?vP ?nP
    (case a1 => k_is)
    (case l1 => k_is)
    (case c1 => k_is)
    (case k1 => k_is)
    (case a2 => k_is)
    (case l2 => k_is)
    (case c2 => k_is)
    (case k2 => k_is)
    (case a3 => k_is)
    (case l3 => k_is)
    (case c3 => k_is)
    (case k3 => k_is)
    (case a4 => k_is)
    (case l4 => k_is)
    (case c4 => k_is)
    (case k4 => k_is)
    (case a5 => k_is)
    (case l5 => k_is)
    (case c5 => k_is)
    (case k5 => k_is)
    (case a6 => k_is)
    (case l6 => k_is)
    (case c6 => k_is)
    (case k6 => k_is)
    (case a7 => k_is)
    (case l7 => k_is)
    (case c7 => k_is)
    (case k7 => k_is)
    (case a8 => k_is)
    (case l8 => k_is)
    (case c8 => k_is)
    (case k8 => k_is)
    (case a9 => k_is)
    (case l9 => k_is)
    (case c9 => k_is)
    (case k9 => k_is)
    (case z0 => k_is)
    (case z1 => k_is)
    (case z2 => k_is)
    (case z3 => k_is)
    (case z4 => k_is)
    (case z5 => k_is)
    (case z6 => k_is)
    (case z7 => k_is)
    (case z8 => k_is)
    (case z9 => k_is)
    (case z10 => k_is)
    (case z11 => k_is)
    (case gl_0 => k_is)
    (case gl_1 => k_is)
    (case lc => k_is)
    (case vP => rfl)
    (case nP => first | kernel_rfl | rfl)
