import PyProof.Rows.All
import Wide.All
import OpenK.AllK
import Wide.FinOn
import HandS.ForMost
import HandS.IsInst
import HandS.Wide
import HandS.Codes
import HandS.Walk
import HandS.Deep
import HandS.EndBits
import HandS.EndTab
import HandS.Zip
import HandS.ExcInit
import HandS.ExcIs
import HandS.ExcField
import HandS.ExcValue
import HandS.WordsExc
import HandS.Defaults
import HandS.MakeKwOnly
import PyProof.ReprRoads
import KE.KExcIs
import PySem.Challenge.RW_ringhall_k01_things_listed
set_option Elab.async false
set_option linter.all false
set_option maxRecDepth 100000
set_option exponentiation.threshold 2000
namespace Rh
open PySem L2
def topS (i : Nat) : Stmt := PySem.Challenge.pw_ringhall_k01_things_listed.main.body.getD i (.Pass ⟨0, 0, 0, 0⟩)
/-! ### the purse -/
def Pu (H : Hp) (p : Addr) (n : Int) : Prop := ∃ own seed cnt : Int, H p = some (.lst [.int own, .int seed, .int cnt]) ∧ 0 ≤ own ∧ 0 ≤ seed ∧ seed < 2 ^ 63 ∧ 0 ≤ cnt ∧ cnt ≤ n
def Keep (p : Addr) (H H' : Hp) : Prop := ∀ b o, b ≠ p → H b = some o → H' b = some o
theorem Keep.refl (p : Addr) (H : Hp) : Keep p H H := fun _ _ _ h => h
theorem Keep.trans {p : Addr} {H H1 H2 : Hp} (a : Keep p H H1) (b : Keep p H1 H2) : Keep p H H2 := fun c o n h => b c o n (a c o n h)
theorem Keep.same {p : Addr} {H H' : Hp} (s : Same H H') : Keep p H H' := fun c o _ h => s c o h
theorem Same.keep {p : Addr} {H0 H H' : Hp} (s : Same H0 H) (k : Keep p H H') (n : H0 p = none) : Same H0 H' := fun b o h => k b o (ne_of_none h n) (s b o h)
theorem Same.new {H : Hp} {p : Addr} {o : HO} (h : H p = none) : Same H (upd H p o) := fun a u e => by
  rw [upd_ne (ne_of_none e h)]
  exact e
theorem Pu.same {H H' : Hp} {p : Addr} {n : Int} (u : Pu H p n) (s : Same H H') : Pu H' p n := by
  obtain ⟨a, b, c, h, r⟩ := u
  exact ⟨a, b, c, s _ _ h, r⟩
theorem Pu.mono {H : Hp} {p : Addr} {n m : Int} (u : Pu H p n) (h : n ≤ m) : Pu H p m := by
  obtain ⟨a, b, c, h1, h2, h3, h4, h5, h6⟩ := u
  exact ⟨a, b, c, h1, h2, h3, h4, h5, by omega⟩

def spPurse (K : PySem.W.Frag) : Sp := fun vs H Q _ => ∃ (a : Addr) (ns : List Int) (k : Int), vs = [.ref a, .int k] ∧ SqL K H a (ns.map V.int) ∧ ns.length ≤ 63 ∧ 0 ≤ k ∧ k < 64 ∧ ∀ p H', H p = none → Same H H' → Pu H' p 0 → Q (.ref p) H'
def spCoin : Sp := fun vs H Q _ => ∃ (p : Addr) (many n : Int), vs = [.ref p, .int many] ∧ Pu H p n ∧ n < 2 ^ 30 ∧ 1 ≤ many ∧ many < 2 ^ 300 ∧
  ∀ r H', 0 ≤ r → r < many → Pu H' p (n + 1) → Keep p H H' → Q (.int r) H'

/-- a def that stands under its name and keeps its promise -/
def Cal (P : Program) (w : World) (K : PySem.W.Frag) (mg : Str → Option Value) (base : Heap) (k : Nat) (x : Str) (ps : List Str) (sp : Sp) : Prop :=
  ∃ (f : Addr) (fd : FuncData), FnOk P w K mg base CX0 k f fd ps sp ∧ mg x = some (.ref f) ∧ PySem.W.keepIn K (.ref f) = true ∧ Binds K fd ps []

abbrev primesL : List V := [.int 2147483489, .int 2147483477, .int 2147483423, .int 2147483399, .int 2147483353, .int 2147483323, .int 2147483269, .int 2147483249]
theorem prime_at {i : Int} (h0 : 0 ≤ i) (h8 : i < 8) : ∃ v : Int, atI primesL i = some (.int v) ∧ 2147483249 ≤ v ∧ v ≤ 2147483489 := by
  have h : i = 0 ∨ i = 1 ∨ i = 2 ∨ i = 3 ∨ i = 4 ∨ i = 5 ∨ i = 6 ∨ i = 7 := by omega
  rcases h with h | h | h | h | h | h | h | h <;> subst h <;> exact ⟨_, rfl, by decide, by decide⟩

theorem yesC {σ : L2.St} {H : Hp} {A B : Hp → Prop} (h : A H) : tYes σ H (fun b H3 => if b = true then A H3 else B H3) := by
  show (if true = true then A H else B H)
  rw [if_pos rfl]
  exact h

/-! ### an exception that is kept behind its suite: except C as n: .. caught = n -/
section
open PySem.Spec PyProof.Rows
/-- at a: an exception object of this class, its dict at d or none -/
def exV (cls : Value) (d : Option Addr) (a : Addr) : HO := .ext fun h => ∃ (oe : Obj) (vs : Array Value), h.get? a = some oe ∧ Zc cls d oe ∧ oe.data = .fields vs
theorem exV_ok {P : Program} {w : World} {H : Hp} {h : Heap} {a : Addr} {cls : Value} {d : Option Addr} {oe : Obj} {vs : Array Value} (e : h.get? a = some oe) (z : Zc cls d oe) (f : oe.data = .fields vs) : ObjOk P w H h a (exV cls d a) :=
  ⟨⟨oe, vs, e, z, f⟩, ⟨oe, e⟩, fun _ _ ⟨o, us, q1, q2, q3⟩ k => ⟨o, us, k _ q1, q2, q3⟩⟩
theorem exV_at {P : Program} {w : World} {H : Hp} {h : Heap} {a : Addr} {cls : Value} {d : Option Addr} (k : HOk P w H h) (e : H a = some (exV cls d a)) : ∃ (oe : Obj) (vs : Array Value), h.get? a = some oe ∧ Zc cls d oe ∧ oe.data = .fields vs := (k a _ e).1
theorem no_cell {h : Heap} {a : Addr} {o : Obj} {vs : Array Value} {v : Option Value} (e : h.get? a = some o) (f : o.data = .fields vs) (c : h.IsCell a v) : False := by
  obtain ⟨u, q, r⟩ := c
  rw [e] at q
  cases q
  rw [f] at r
  cases r
/-- an object that came behind the def's beginning, taken into the abstract heap as it stands -/
theorem taken_in {X : Cx} {pins : List (Addr × Obj)} {σ : L2.St} {H : Hp} {s : Shared} {a : Addr} {oe : Obj} {vs : Array Value} {cls : Value} {d : Option Addr} (I : Inv X pins σ H s) (ha : s.heap.get? a = some oe) (hz : Zc cls d oe) (hf : oe.data = .fields vs) (na : H a = none)
    (n0 : X.s_0.heap.get? a = none) (nL : a ≠ X.env.locals) (np : ∀ p ∈ X.pn ++ pins, p.1 ≠ a) : Inv X pins σ (upd H a (exV cls d a)) s := by
  have ne0 : ∀ {b : Addr} {o : Obj}, X.s_0.heap.get? b = some o → b ≠ a := fun e z => by
    rw [z, n0] at e
    cases e
  have neH : ∀ {b : Addr} {o : HO}, H b = some o → b ≠ a := fun e => ne_of_none e na
  refine ⟨I.ok, I.os, I.bare, ⟨I.base.keep, I.base.slot, fun b o e n hx => ?_, I.base.there, fun b xs e => ?_, fun b o u e => ?_, fun b ps e => ?_⟩, I.loc, I.cell, ?_, fun y c e => ?_, fun p hp => ?_, ?_, I.len⟩
  · rw [upd_ne (ne0 e)]
    exact I.base.free b o e n hx
  · have q := I.base.tups b xs e
    rw [upd_ne (neH q)]
    exact q
  · have q := I.base.frzs b o u e
    rw [upd_ne (neH q)]
    exact q
  · obtain ⟨more, q⟩ := I.base.tbls b ps e
    exact ⟨more, by rw [upd_ne (neH q)]; exact q⟩
  · rw [upd_ne (Ne.symm nL)]
    exact I.free
  · have nc : c ≠ a := fun z => by
      obtain ⟨v, q⟩ := I.cell y c e
      rw [z] at q
      exact no_cell ha hf q
    rw [upd_ne nc]
    exact I.freeC y c e
  · obtain ⟨p1, p2, p3⟩ := I.pin p hp
    exact ⟨p1, by rw [upd_ne (np p hp)]; exact p2, p3⟩
  · exact I.hok.laidN (fun _ _ e => e) na (exV_ok ha hz hf)
/-- what the clause wishes: where the suite goes on, the exception stands tracked behind it -/
def wKeep (K : PySem.W.Frag) (c : Value) (i : Nat) (ts : Addr → Value → Option Addr → TS) (Wout : WX) (D : Ends) : WX := fun cls d σ H =>
  ∃ b, PySem.W.exmOne K cls c = some b ∧ (b = true → ∀ a, H a = none → ts a cls d { nx := fun σ' H' => D.nx (σ'.set i none) (upd H' a (exV cls d a)), rt := D.rt, bk := fun _ _ => False, ct := fun _ _ => False } (σ.set i (some (.ref a))) H) ∧
    (b = false → Wout cls d σ H)
theorem ps_try_keep {X : Cx} {x n : Str} {c : Value} {i : Nat} {body more : List Stmt} {st : Stmt} {np pos pos2 : Pos} {tb : WX → TS} {ts : Addr → Value → Option Addr → TS} {Wout : WX} (stk : X.stack = X.env :: X.outer) (frm : X.env.frame = some X.env.locals) (hex : X.ex = []) (nd : X.N.Nodup)
    (at_i : X.N[i]? = some n) (lcl : X.env.kindOf n = some .local) (names : Names X x c) (tk : Takes X Wout)
    (tried : ∀ (W : WX) (pn : List (Addr × Obj)) (xe : Value → Shared → Prop), Takes (X.tr pn xe) W → PassesOwn (model X.prog X.w) X.A X.env xe → PSs (X.tr pn xe) body (tb W))
    (suite : ∀ (a : Addr) (oe : Obj) (cls : Value) (d : Option Addr) (pn : List (Addr × Obj)), Zc cls d oe → (∃ vs, oe.data = .fields vs) → PSs (X.suite a ((a, oe) :: pn)) (st :: more) (ts a cls d)) :
    PS X (.Try body [.ExceptHandler (some (.Name x np)) (some n) (st :: more) pos2] [] [] pos) (fun D σ H => tb (wKeep X.K c i ts Wout D) D σ H) := by
  refine ⟨fun pins s σ H D I says => ?_⟩
  have okX := I.ok
  have frs_ : X.A.frames = some (X.env :: X.outer) := okX.frames.trans (congrArg some stk)
  refine wpAny_Try_except (wpAny_mono ((tried (wKeep X.K c i ts Wout D) (X.pn ++ pins) (fun e t1 => wpAny (model X.prog X.w) X.A (noteFrame e X.env) (fun _ t2 => wpAny (model X.prog X.w) X.A (setFlight e none) (fun _ t3 =>
    wpAny (model X.prog X.w) X.A (handleBy e X.env [.ExceptHandler (some (.Name x np)) (some n) (st :: more) pos2]) (SP X pins D) X.xe t3) X.xe t2) X.xe t1) (fun u t flies => ?_) PassesOwn.looking).run [] s σ H D (I.toTry _) says) (fun fl t out => ?_) (fun _ _ out => out))
  · obtain ⟨a, B, sI, pins', σ1, H1, cls, d, rfl, JT, ground, up, sky, na, os, bare, b, one, yes, no⟩ := flies
    have J : Inv X pins σ1 H1 sI := JT.ofTry okX
    have sky1 : Sky B (X.env :: X.outer) a (Zc cls d) X.env.locals t.heap := stk ▸ sky
    refine Sky.land (Zc.steady) frs_ frm sky1 fun h3 fly3 up3 => ?_
    have B0 := fly3.2.1
    have J3 : Inv X pins σ1 H1 { t with heap := h3 } := J.landed ground fly3.1 (up.trans up3) os bare
    obtain ⟨oe3, vs3, at3, z3, f3⟩ := fly3.there
    have nofr : a ∉ frs (X.env :: X.outer) := fun m => by
      obtain ⟨_, o', e', nf⟩ := fly3.2.2.1.mem m
      rw [at3] at e'
      cases e'
      exact nf _ f3
    have nL : a ≠ X.env.locals := fun z => nofr (List.mem_filterMap.mpr ⟨X.env, List.mem_cons_self, by rw [frm, z]⟩)
    have nF : a ∉ X.fs := fun m => by
      obtain ⟨e, me, q⟩ := List.mem_filterMap.mp m
      exact nofr (List.mem_filterMap.mpr ⟨e, List.mem_cons_of_mem _ me, q⟩)
    have newI : sI.heap.get? a = none := by
      cases q : sI.heap.get? a with
      | none => rfl
      | some o =>
        have := ground a o q (stk ▸ nofr)
        rw [B0] at this
        cases this
    have new0 : X.s_0.heap.get? a = none := by
      cases q : X.s_0.heap.get? a with
      | none => rfl
      | some o =>
        obtain ⟨o', q'⟩ := J.base.there a o q (by rw [hex]; exact List.not_mem_nil)
        rw [newI] at q'
        cases q'
    have nP : ∀ p ∈ X.pn ++ pins, p.1 ≠ a := fun p hp z => by
      have := (J.pin p hp).1
      rw [z, newI] at this
      cases this
    have S3 := J3.suite at3 f3 na nL nF
    refine wpAny_handleBy_cons (codeAny_handlers_test ?_) (by intro q; cases q)
    have kind : PySem.W.Looks (model X.prog X.w) h3 (typeOf (.ref a)) cls := fun A Q E s k q => wpAny_typeOf_ref (k _ _ at3) (by rw [z3.1]; exact q)
    have seen := PySem.W.exm_one (M := model X.prog X.w) (J3.kIn) kind one
    have named : ∀ {Q : Value → Shared → Prop} {E : Value → Shared → Prop}, Q c { t with heap := h3 } → wpAny (model X.prog X.w) (X.A.mark (some (.ref a))) (eval (.Name x np) X.env) Q E { t with heap := h3 } := fun {Q E} q => by
      obtain ⟨g, dbg, m | ⟨m, v, ne⟩⟩ := names
      · exact ld_glob (X := X.suite a ((a, oe3) :: (X.pn ++ pins))) S3 g m q dbg
      · exact ld_blt (X := X.suite a ((a, oe3) :: (X.pn ++ pins))) S3 g m v q ne dbg
    refine named (seen.here ?_)
    cases b with
    | true =>
      refine codeAny_handlers_suite_as (HandSPX.lands_againZ fly3 fun h4 fly4 up4 => ?_)
      have J4 : Inv X pins σ1 H1 { t with heap := h4 } := J.landed ground fly4.1 ((up.trans up3).trans up4) os bare
      obtain ⟨oe4, vs4, at4, z4, f4⟩ := fly4.there
      have S4 := J4.suite at4 f4 na nL nF
      refine store_ok (X := X.suite a ((a, oe4) :: (X.pn ++ pins))) (v := .ref a) S4 nd at_i (.inl lcl) rfl (fun s5 S5 => ?_) (.inr lcl)
      refine wpAny_mono ((suite a oe4 cls d (X.pn ++ pins) z4 ⟨_, f4⟩).run [] s5 _ H1 _ S5 (yes rfl a na)) (fun fl s6 out => ?_) (fun _ _ z => False.elim z)
      match fl, out with
      | .next, ⟨σ6, H6, S6, q6⟩ =>
        have pin6 := S6.pin (a, oe4) (List.mem_append_left _ List.mem_cons_self)
        have J6 := taken_in (S6.unsuite okX) pin6.1 z4 f4 pin6.2.1 new0 nL nP
        exact gone_ok J6 nd at_i lcl fun s7 J7 => ⟨_, _, J7, q6⟩
      | .brk, ⟨_, _, _, q6⟩ => exact False.elim q6
      | .cont, ⟨_, _, _, q6⟩ => exact False.elim q6
      | .ret u, ⟨v6, σ6, H6, S6, r6, q6⟩ => exact gone_ok (S6.unsuite okX) nd at_i lcl fun s7 J7 => ⟨_, _, _, J7, r6, q6⟩
    | false =>
      refine wpAny_handleBy_nil ?_
      obtain ⟨k1, k2, k3, oe, vs, T, oT, us, e1, e2, e3, e4, e5⟩ := id fly3
      unfold PySem.passOn
      refine wpAny_bind (wpAny_field e1 e3 e4 ?_)
      rw [if_neg (show ¬ ((Value.ref T == Value.none) = true) from by simp)]
      have goes : wpAny (model X.prog X.w) X.A (setFlight (.ref a) X.env.frame) (fun _ s4 => wpAny (model X.prog X.w) X.A (throw (.ref a) : Sem Flow) (SP X pins D) X.xe s4) X.xe { t with heap := h3 } := by
        rw [frm]
        exact HandSPX.setFlight_upZ fly3 fun h4 held4 up4 => wpAny_throw (tk _ _ ⟨a, B, sI, pins, σ1, H1, cls, d, rfl, J, ground, (up.trans up3).trans up4, .inr (.inr (stk ▸ held4)), na, os, bare, no rfl⟩)
      first
        | exact wpAny_bind (wpAny_pure (wpAny_bind goes))
        | exact wpAny_bind goes
  · match fl, out with
    | .next, ⟨_, _, J1, q⟩ => exact wpAny_execs_nil ⟨_, _, J1.ofTry okX, q⟩
    | .brk, ⟨_, _, J1, q⟩ => exact ⟨_, _, J1.ofTry okX, q⟩
    | .cont, ⟨_, _, J1, q⟩ => exact ⟨_, _, J1.ofTry okX, q⟩
    | .ret u, ⟨_, _, _, J1, r, q⟩ => exact ⟨_, _, _, J1.ofTry okX, r, q⟩
end

/-! ### a kept exception: isinstance, its fields -/
section
open PySem.Spec PyProof.Rows
theorem kept_inst {P : Program} {w : World} {H : Hp} {h : Heap} {a d C : Addr} {fs : List (Str × V)} (k : HOk P w H h) (ea : H a = some (exV (.ref C) (some d) a)) (ed : H d = some (.xd fs)) :
    ∃ (oe od : Obj) (mA : Str → Option Value), PySem.W.InstAt h a oe C (some od) ∧ (∀ f, PySem.W.lookIn f od = some (mA f)) ∧ ∀ f, RelO (fs.lookup f) (mA f) := by
  obtain ⟨oe, vs, e1, z, f⟩ := exV_at k ea
  obtain ⟨mA, ns, rel⟩ := (show ObjOk P w H h d (.xd fs) from k d _ ed)
  obtain ⟨od, e2, l⟩ := lookIn_ns ns
  exact ⟨oe, od, mA, ⟨e1, z.1, by unfold PySem.W.notCls; rw [f] <;> rfl, by rw [z.2]; exact e2⟩, l, rel⟩
def rIsV (K : PySem.W.Frag) : List V → Hp → VK → Prop := fun xs H Q => ∃ (a d C : Addr) (fs : List (Str × V)) (c : V) (u : Value) (b : Bool), xs = [.ref a, c] ∧ H a = some (exV (.ref C) (some d) a) ∧ H d = some (.xd fs) ∧ ExcC K C ∧ ClsV c u ∧ PySem.W.kitOne K (.ref C) u = some b ∧ Q (.bl b) H
theorem call_isV {X : Cx} : CallR X (.builtin "isinstance") (rIsV X.K) := by
  intro pins s σ H xs us Q I r h
  obtain ⟨a, d, C, fs, c, u, b, rfl, ea, ed, T, k, e, q⟩ := h
  obtain ⟨u1, u2, rfl, r1, r2⟩ := vals2 r
  cases (show u1 = Value.ref a from r1)
  have e2 := k.eq r2
  subst e2
  obtain ⟨oe, od, mA, J, _, _⟩ := kept_inst I.hok ea ed
  exact PySem.W.kia_one (PySem.W.kitx_exc (by obtain ⟨cd, hc, _⟩ := PySem.W.any_some T.hd; rw [hc]; rfl) T.hg T.hk T.hs T.ha T.hn T.ht T.hm) I.kIn J e (fun z => nomatch z) fun tk => ⟨.bl b, H, I.tok tk, rfl, q⟩
def rIsVT (K : PySem.W.Frag) : List V → Hp → VK → Prop := fun xs H Q => ∃ (a d C tp : Addr) (fs : List (Str × V)) (cs : List V) (ws : List Value) (b : Bool), xs = [.ref a, .ref tp] ∧ H a = some (exV (.ref C) (some d) a) ∧ H d = some (.xd fs) ∧ ExcC K C ∧ H tp = some (.tup cs) ∧ Paired ClsV cs ws ∧ PySem.W.kitAny K (.ref C) ws = some b ∧ Q (.bl b) H
theorem call_isVT {X : Cx} : CallR X (.builtin "isinstance") (rIsVT X.K) := by
  intro pins s σ H xs us Q I r h
  obtain ⟨a, d, C, tp, fs, cs, ws, b, rfl, ea, ed, T, hT, k, e, q⟩ := h
  obtain ⟨u1, u2, rfl, r1, r2⟩ := vals2 r
  cases (show u1 = Value.ref a from r1)
  cases (show u2 = Value.ref tp from r2)
  obtain ⟨oe, od, mA, J, _, _⟩ := kept_inst I.hok ea ed
  obtain ⟨_, its, rv, o, q1, q2, n, q3⟩ := (show ObjOk X.prog X.w H s.heap tp (.tup cs) from I.hok tp _ hT)
  obtain rfl := ClsV.all k rv
  obtain ⟨oc, oq, dt, sl⟩ := o
  simp only at q2 q3
  subst q2 q3
  exact PySem.W.kia_tup (PySem.W.kitx_exc (by obtain ⟨cd, hc, _⟩ := PySem.W.any_some T.hd; rw [hc]; rfl) T.hg T.hk T.hs T.ha T.hn T.ht T.hm) I.kIn J q1 e (fun z => nomatch z) fun tk => ⟨.bl b, H, I.tok tk, rfl, q⟩
/-- e.f of a kept exception -/
def tXv (K : PySem.W.Frag) (f : Str) (te : TE) : TE := fun σ H Q => te σ H fun x H1 => ∃ (a d C : Addr) (fs : List (Str × V)) (v : V), x = .ref a ∧ H1 a = some (exV (.ref C) (some d) a) ∧ H1 d = some (.xd fs) ∧ XfC K C ∧ PySem.W.findIn K (.ref C) f = some none ∧ fs.lookup f = some v ∧ Q v H1
theorem pe_exf {X : Cx} {e : Expr} {te : TE} {pos : Pos} {n : Str} (he : PE X e te) (hb : attributeBase e n X.env (eval e X.env) = eval e X.env := by rfl) : PE X (.Attribute e n pos) (tXv X.K n te) := by
  refine ⟨fun pins s σ H Q I says => attr_of hb (thn (he.run pins s σ H _ I says) fun u s1 told => ?_)⟩
  obtain ⟨x, H1, I1, rx, a, d, C, fs, v, rfl, ea, ed, T, no, l, q⟩ := told
  obtain rfl : u = Value.ref a := rx
  obtain ⟨oe, od, mA, J, look, rel⟩ := kept_inst I1.hok ea ed
  obtain ⟨u, hu, ru⟩ := RelO.some_of (v := v) (o := mA n) (by rw [← l]; exact rel n)
  exact HandSPX.exc_get I1.kIn J T.ga T.gg T.exC (PySem.W.findObj_own T.hdC no rfl (by rw [look, hu])) (handed_of ru) ⟨v, H1, I1.tok _, ru, q⟩
end

/-! ### a def at one place alone: its body may use what that place says (no guard is held there) -/
def FnAt (P : Program) (w : World) (K : PySem.W.Frag) (mg : Str → Option Value) (base : Heap) (CX : CXT) (A : Around) (f : Addr) (fd : FuncData) (ps : List Str) (sp : Sp) : Prop :=
  ∀ (up : List Env) (s : Shared) (H : Hp) (args : Args) (us : List Value) (vs : List V) (Q : VK) (E : XK), Env0 P w K mg base A up s H → BindsTo s fd args (ps.zip us) → Vals vs us → sp vs H Q E →
    codeAny (model P w) A (.call (.ref f) args) (CR CX up P w H s Q E) s
theorem fn_at {CX : CXT} {P : Program} {w : World} {K : PySem.W.Frag} {mg : Str → Option Value} {base : Heap} {k : Nat} {A : Around} {f : Addr} {x q : Str} {pa : Arguments} {bo : List Stmt} {sc : Scope} {dV kV doc pm cdv ct oc : Value}
    {an od : Option Addr} {sl : Array (Option Value)} {N ps : List Str} {sp : Sp} (hr : Room (k + 1) A) (at_ : K.lookup f = some ⟨oc, od, .func (PySem.W.fnOf x q pa bo sc dV kV doc pm an cdv ct), sl⟩) (hc : PySem.W.codeIn K cdv q = true) (S : FnScope N ps sc)
    (many : ∀ vs H Q E, sp vs H Q E → vs.length = ps.length)
    (walks : ∀ (up : List Env) (s : Shared) (H : Hp) (vs : List V) (Q : VK) (E : XK), Room k (A.deeper (PyProof.Rows.envOfC q sc s.heap.objs.size f cdv)) → sp vs H Q E →
      ∃ t, PSs (cxOf CX P w K mg base N q sc f cdv A up s H E) bo t ∧ t { nx := fun _ H' => Q .non H', rt := Q } (start N vs) H) :
    FnAt P w K mg base CX A f (PySem.W.fnOf x q pa bo sc dV kV doc pm an cdv ct) ps sp := by
  intro up s H args us vs Q E env binds vals says
  have held : ∀ b o, base.get? b = some o → s.heap.get? b = some o := fun b o e => (env.bs b o e).1
  have KX := env.mod.kin.keeps held
  refine codeAny_call_function hr.depth (KX _ _ at_) rfl S.co S.gen rfl (PySem.W.codeRec_of KX hc) (binds _ _ _ _ ?_)
  refine wpAny_newFunctionEnv_cells S.kind (fun ⟨n, v⟩ hy => (S.par n (List.of_mem_zip hy).1).imp id fun z => ⟨z, PySem.W.cellsFrom_some _ _ _ (.inl z)⟩) fun e he s1 made => ?_
  subst he
  refine ⟨env.mod.nolimit.keeps fun b o z => made.toInCall.keep b o (held b o z), codeAny_func ?_⟩
  obtain ⟨t, body, reading⟩ := walks up s H vs Q E (hr.deeper _) says
  have I0 : Inv (cxOf CX P w K mg base N q sc f cdv A up s H E) [] (start N vs) H s1 := inv_start S hr.hd env (many _ _ _ _ says) vals made
  refine wpAny_mono (body.run [] s1 _ H _ I0 reading) (fun fl s' out => ?_) fun _ _ out => out
  have ends : ∀ {σ' : L2.St} {H' : Hp} {v : V} {u : Value}, Inv (cxOf CX P w K mg base N q sc f cdv A up s H E) [] σ' H' s' → RelV v u → Q v H' → CE up P w H s Q u s' := fun {_ H' v _} J rv z => ⟨v, H', J.os, J.bare, J.base, J.hok, rv, z⟩
  match fl, out with
  | .ret _, ⟨_, _, _, J, rv, z⟩ => exact ends J rv z
  | .next, ⟨_, _, J, z⟩ => exact ends (v := V.non) (u := Value.none) J rfl z
  | .brk, ⟨_, _, _, z⟩ => exact False.elim z
  | .cont, ⟨_, _, _, z⟩ => exact False.elim z
section
open PySem.Spec PyProof.Rows
/-- the abstract heap ahead of the call: the script alone, where it is none of the module's own objects -/
theorem first_heap {P : Program} {w : World} {K : PySem.W.Frag} {s : Shared} {a : Addr} {us : List Value} {nums : List Int} (kin : K.In s.heap) (there : s.heap.get? a = some { cls := .type "list", data := .seq us.toArray }) (nmb : IntsAre us nums) (fits : nums.length ≤ sizeLine) :
    ∃ H : Hp, SqL K H a (nums.map V.int) ∧ HOk P w H s.heap ∧ ∀ b u, H b = some u → b = a ∧ K.lookup a = none ∧ ∃ o xs, u = .frz o (.lst xs) := by
  have vals := vals_ints nmb
  cases own : K.lookup a with
  | some o =>
    have same := kin a o own
    rw [there] at same
    cases same
    refine ⟨fun _ => none, .inr ⟨_, us.toArray, _, own, rfl, rfl, rfl, ?_, by simpa using vals⟩, (fun _ _ z => by cases z), (fun _ _ z => by cases z)⟩
    rw [List.size_toArray, nmb.length]
    exact fits
  | none =>
    refine ⟨upd (fun _ => none) a (.frz { cls := .type "list", data := .seq us.toArray } (.lst (nums.map V.int))), .inl (.inr ⟨_, upd_same⟩), fun b u z => ?_, fun b u z => ?_⟩
    · by_cases e : b = a
      · subst e
        rw [upd_same] at z
        cases z
        exact ⟨there, by rw [List.length_map]; exact fits, us, _, vals, there⟩
      · rw [upd_ne e] at z
        cases z
    · by_cases e : b = a
      · subst e
        rw [upd_same] at z
        cases z
        exact ⟨rfl, rfl, _, _, rfl⟩
      · rw [upd_ne e] at z
        cases z
theorem end_at {P : Program} {w : World} {K : PySem.W.Frag} {mg mb : Str → Option Value} {fa a : Addr} {fd : FuncData} {x : Str} {sp : Sp} {CX : CXT} {s : Shared} {us : List Value} {nums : List Int} (kin : K.In s.heap) (gl : s.heap.Ns mainGlobals mg) (bl : s.heap.Ns builtinsNs mb)
    (bb : ∀ x : Str, x ≠ "__name__" → mb x = bootBuiltins x) (lim : s.heap.NoLimit) (ng : s.gens = #[]) (there : s.heap.get? a = some { cls := .type "list", data := .seq us.toArray }) (nmb : IntsAre us nums) (fits : nums.length ≤ sizeLine)
    (F : ∀ base : Heap, K.In base → base.Ns mainGlobals mg → FnAt P w K mg base CX callerA fa fd [x] sp) (one : ∀ (s : Shared) (u : Value), BindsTo s fd ⟨[u], []⟩ [(x, u)])
    (says : ∀ H : Hp, SqL K H a (nums.map V.int) → sp [.ref a] H (fun v _ => v = .bl true) fun _ _ _ => False) (calm : ∀ H e s', CX [] H s (fun _ _ _ => False) e s' → False) :
    codeAny (model P w) callerA (.call (.ref fa) ⟨[.ref a], []⟩) (fun r s' => r = .ok (.ret (.bool true)) ∧ OldK s.heap s'.heap ∧ s'.os = s.os ∧ AllBare s'.gens) s := by
  obtain ⟨H, seq, hok, alone⟩ := first_heap (P := P) (w := w) kin there nmb fits
  have untouched : ∀ {b : Addr} {o : Obj}, s.heap.get? b = some o → (b = a → K.lookup a = none → False) → (hidT s.heap H).get? b = some o := fun {b o} e no => hidT_get e (by
    cases q : H b with
    | none => rfl
    | some u => exact (no (alone b u q).1 (alone b u q).2.1).elim)
  have dicts : ∀ {b : Addr} {m : Str → Option Value}, s.heap.Ns b m → (hidT s.heap H).Ns b m := fun {b m} ⟨o, es, ep, e, d, r⟩ => ⟨o, es, ep, untouched e (fun z _ => by
    rw [z, there] at e
    cases e
    cases d), d, r⟩
  have kinB : K.In (hidT s.heap H) := fun b o e => untouched (kin b o e) fun z no => by
    rw [z, no] at e
    cases e
  obtain ⟨mc, m1, m2⟩ := lim
  have env : Env0 P w K mg (hidT s.heap H) callerA [] s H := ⟨rfl, ⟨kinB, dicts gl, ⟨mb, dicts bl, bb⟩, mc, dicts m1, m2⟩, fun _ _ => of_hidT, Nat.le_of_eq (hidT_size _ _), trivial, fun b hb => (nomatch hb), hok, .of_eq ng⟩
  refine codeAny_mono (F _ kinB (dicts gl) [] s H ⟨[.ref a], []⟩ [.ref a] [.ref a] _ _ env (one s (.ref a)) (.cons rfl .nil) (says H seq)) fun r s' out => ?_
  match r, out with
  | .error e, out => exact (calm H e s' out).elim
  | .ok .next, out => exact False.elim out
  | .ok .brk, out => exact False.elim out
  | .ok .cont, out => exact False.elim out
  | .ok (.ret u), ⟨v, H', os, bare, un, hok', rv, q⟩ =>
    obtain rfl : v = .bl true := q
    obtain rfl : u = Value.bool true := rv
    refine ⟨rfl, OldK.of_keep fun b o e => ?_, os, bare⟩
    cases z : H b with
    | none => exact un.keep b o e z (fun y => (nomatch (show b ∈ ([] : List Addr) from y))) (fun y => (nomatch (show b ∈ ([] : List Addr) from y)))
    | some u =>
      obtain ⟨_, _, fo, xs, rfl⟩ := alone b u z
      have b1 := (hok b _ z).1
      rw [e] at b1
      cases b1
      exact (hok' b _ (un.frzs b _ _ z)).1
end
theorem Fun.at_ {P : Program} {w : World} {K : PySem.W.Frag} {mg : Str → Option Value} {base : Heap} {A : Around} {x qual : Str} {st : Stmt} {f : Addr} {fd : FuncData} {N ps : List Str} {k : Nat} {sp : Sp} (F : Fun K x qual st f fd) (hr : Room (k + 1) A) (S : FnScope N ps (defScope st)) (many : ∀ vs H Q E, sp vs H Q E → vs.length = ps.length)
    (walks : ∀ (cdv : Value) (up : List Env) (s : Shared) (H : Hp) (vs : List V) (Q : VK) (E : XK), Room k (A.deeper (PyProof.Rows.envOfC qual (defScope st) s.heap.objs.size f cdv)) → sp vs H Q E →
      ∃ t, PSs (cxOf CX0 P w K mg base N qual (defScope st) f cdv A up s H E).nox (defBody st) t ∧ t { nx := fun _ H' => Q .non H', rt := Q } (start N vs) H) : FnAt P w K mg base CX0 A f fd ps sp := by
  obtain ⟨oc, od, kV, doc, pm, an, cdv, ct, osl, rfl, lk, hcd⟩ := F.ex
  refine fn_at hr lk hcd S many fun up s H vs Q E room says => ?_
  obtain ⟨t, body, reading⟩ := walks cdv up s H vs Q E room says
  exact ⟨t, body.nox, reading⟩

section
open PySem.Spec PyProof.Rows
/-- repr(x) of a list or a tuple, data all the way down, where no guard is held -/
def rReprD (K : PySem.W.Frag) : List V → Hp → VK → Prop := fun xs H Q => ∃ (a : Addr) (d : PyData), xs = [.ref a] ∧ Dp K H (.ref a) d ∧ d.showable = true ∧ d.hasDict = false ∧ d.depth ≤ 60 ∧ d.shown.length ≤ sizeLine ∧ Q (.str d.shown) H
theorem call_reprD {X : Cx} (hg : X.A.guards = some []) (hu : X.A.units + 64 < cLine) : CallR X (.builtin "repr") (rReprD X.K) := by
  intro pins s σ H xs us Q I r h
  obtain ⟨a, d, rfl, hd, hs, hn, hdp, hz, q⟩ := h
  rw [Vals.ref1 r]
  obtain ⟨as, rd⟩ := Dp.reads I d (.ref a) (.ref a) hd rfl
  exact repr_of_reads' rd hs (fun e => by rw [hn] at e; cases e) hg (by omega) (fun _ _ e => e) (fun h' u tk kp => ⟨.str d.shown, H, I.kept (t' := tk) kp, ⟨u, rfl⟩, q⟩) hz
end

structure Txt (mg : Str → Option Value) : Prop where
  b_len : mg "len" = none
  b_max : mg "max" = none
  b_min : mg "min" = none
  b_range : mg "range" = none
  b_bool : mg "bool" = none
  b_isinstance : mg "isinstance" = none
  b_int : mg "int" = none
  b_str : mg "str" = none
  b_all : mg "all" = none
  b_list : mg "list" = none
  b_tuple : mg "tuple" = none
  b_zip : mg "zip" = none
  b_repr : mg "repr" = none
  b_ValueError : mg "ValueError" = none
  mg_HIGHEST_PRICE : ∃ t, mg "HIGHEST_PRICE" = some (.int 1000000 t)
  mg_LONGEST_NAME : ∃ t, mg "LONGEST_NAME" = some (.int 8 t)
  mg_WIDEST_BAND : ∃ t, mg "WIDEST_BAND" = some (.int 1000000 t)
  mg_RANK : ∃ t, mg "RANK" = some (.str "rank" t)
  mg_SHARE : ∃ t, mg "SHARE" = some (.str "share" t)
section
variable {P : Program} {w : World} {K : PySem.W.Frag} {mg : Str → Option Value} {base : Heap}
abbrev s_law_purse : Stmt := topS 20
theorem sc_law_purse : FnScope ["script", "k", "cell", "own"] ["script", "k"] (defScope s_law_purse) := ⟨rfl, rfl, rfl, by decide +kernel, rfl, by decide +kernel, by decide +kernel⟩
theorem ok_purse {f : Addr} {fd : FuncData} (F : Fun K "_law_purse" "_law_purse" s_law_purse f fd) (T : Txt mg) : FnOk P w K mg base CX0 1 f fd ["script", "k"] (spPurse K) := by
  refine F.ok sc_law_purse (fun vs H Q E h => ?_) (fun cdv A outer s H vs Q E hr h => ?_)
  · obtain ⟨a, ns, k, rfl, _⟩ := h
    rfl
  · obtain ⟨a, ns, k, rfl, hS, hlen, hk0, hk1, q⟩ := h
    refine ⟨_, (pss_cons (ps_set (i := 2) sc_law_purse.nd rfl (Or.inl rfl) (pe_op op_add (pe_op op_mul pe_int (pv 1)) pe_int))
          (pss_cons (ps_if (pt_cmpR op_lt (pv 1) (pe_callB call_len_seq (by rfl) T.b_len PySem.boot_len (pa_cons (pv 0) pa_nil)) (nomark _)) (pss_one (ps_set (i := 2) sc_law_purse.nd rfl (Or.inl rfl) (pe_ix (r := rIxL K) ix_list (pv 0) (pv 1) (fun _ _ => rfl)))) pss_nil)
          (pss_cons (ps_set (i := 3) sc_law_purse.nd rfl (Or.inl rfl) pe_int)
          (pss_cons (ps_if (pt_cmpR op_ge (pv 2) (pe_op op_pow pe_int pe_int) (nomark _)) (pss_one (ps_set (i := 3) sc_law_purse.nd rfl (Or.inl rfl) (pe_op op_sub (pv 2) (pe_op op_pow pe_int pe_int)))) pss_nil)
          (pss_one (ps_ret (pe_lst (pa_cons (pv 3) (pa_cons (pe_op op_add (pe_op op_mod (pv 2) pe_int) (pe_op op_mul pe_int (pv 1))) (pa_cons pe_int pa_nil)))))))))), ?_⟩
    have fin : ∀ cell own : Int, 0 ≤ own → ∀ p, H p = none → Q (.ref p) (upd H p (.lst [.int own, .int (cell % 4611686018427387847 + 53 * k), .int 0])) := fun cell own ho p np =>
      q p _ np (Same.new np) ⟨own, _, 0, upd_same, ho, by omega, by omega, by omega, by omega⟩
    have tail : ∀ cell : Int, ∀ σ : St, σ = [some (.ref a), some (.int k), some (.int cell), none] → True := fun _ _ _ => trivial
    refine ⟨_, rfl, _, _, rfl, rfl, .inl ⟨by decide, by decide⟩, _, _, rfl, rfl, ?_⟩
    refine ⟨_, rfl, _, rfl, _, _, rfl, .inl hS, _, _, rfl, rfl, _, rfl, ite2 (fun c => ?_) (fun c => ?_)⟩
    · have c1 : k < (ns.length : Int) := by
        have c2 := of_decide_eq_true c
        rw [List.length_map] at c2
        exact c2
      have c3 : (ns.map V.int)[k.toNat]? = some (V.int (ns.getD k.toNat 0)) := by
        have c4 : k.toNat < ns.length := by omega
        rw [List.getElem?_map, List.getElem?_eq_getElem c4, List.getD_eq_getElem?_getD, List.getElem?_eq_getElem c4]
        rfl
      have c5 : atI (ns.map V.int) k = some (V.int (ns.getD k.toNat 0)) := by
        have c6 := atI_nat c3
        rw [Int.toNat_of_nonneg hk0] at c6
        exact c6
      refine ⟨_, rfl, _, rfl, a, _, _, _, rfl, rfl, hS, c5, ?_⟩
      refine ⟨_, rfl, _, _, rfl, rfl, ⟨by decide, by decide, by decide⟩, _, _, rfl, rfl, _, rfl, ite2 (fun d => ?_) (fun d => ?_)⟩
      · refine ⟨_, rfl, _, _, rfl, rfl, ⟨by decide, by decide, by decide⟩, _, _, rfl, rfl, ?_⟩
        refine ⟨_, rfl, _, rfl, _, _, rfl, rfl, (by show (0 : Int) < 4611686018427387847; decide), _, rfl, _, _, rfl, rfl, .inl ⟨by decide, by decide⟩, _, _, rfl, rfl, (by show 3 ≤ sizeLine; decide), fun p np => fin _ _ ?_ p np⟩
        have d1 := of_decide_eq_true d
        exact Int.sub_nonneg_of_le d1
      · refine ⟨_, rfl, _, rfl, _, _, rfl, rfl, (by show (0 : Int) < 4611686018427387847; decide), _, rfl, _, _, rfl, rfl, .inl ⟨by decide, by decide⟩, _, _, rfl, rfl, (by show 3 ≤ sizeLine; decide), fun p np => fin _ _ (by decide) p np⟩
    · refine ⟨_, rfl, _, _, rfl, rfl, ⟨by decide, by decide, by decide⟩, _, _, rfl, rfl, _, rfl, ite2 (fun d => ?_) (fun d => ?_)⟩
      · refine ⟨_, rfl, _, _, rfl, rfl, ⟨by decide, by decide, by decide⟩, _, _, rfl, rfl, ?_⟩
        refine ⟨_, rfl, _, rfl, _, _, rfl, rfl, (by show (0 : Int) < 4611686018427387847; decide), _, rfl, _, _, rfl, rfl, .inl ⟨by decide, by decide⟩, _, _, rfl, rfl, (by show 3 ≤ sizeLine; decide), fun p np => fin _ _ ?_ p np⟩
        have d1 := of_decide_eq_true d
        exact Int.sub_nonneg_of_le d1
      · refine ⟨_, rfl, _, rfl, _, _, rfl, rfl, (by show (0 : Int) < 4611686018427387847; decide), _, rfl, _, _, rfl, rfl, .inl ⟨by decide, by decide⟩, _, _, rfl, rfl, (by show 3 ≤ sizeLine; decide), fun p np => fin _ _ (by decide) p np⟩
abbrev s_law_coin : Stmt := topS 21
theorem sc_law_coin : FnScope ["purse", "many", "digit", "primes", "prime", "one", "two"] ["purse", "many"] (defScope s_law_coin) := ⟨rfl, rfl, rfl, by decide +kernel, rfl, by decide +kernel, by decide +kernel⟩
theorem ok_coin {f : Addr} {fd : FuncData} (F : Fun K "_law_coin" "_law_coin" s_law_coin f fd) : FnOk P w K mg base CX0 1 f fd ["purse", "many"] spCoin := by
  refine F.ok sc_law_coin (fun vs H Q E h => ?_) (fun cdv A outer s H vs Q E hr h => ?_)
  · obtain ⟨p, many, n, rfl, _⟩ := h
    rfl
  · obtain ⟨p, many, n, rfl, ⟨own, seed, cnt, hp, h1, h2, h3, h4, h5⟩, hn, hm1, hm2, k⟩ := h
    have m0 : (0 : Int) < many := by omega
    have mw : CDivW own many := wide_div m0 (b := 300) (by omega) (by decide) (by decide)
    refine ⟨_, (pss_cons (ps_if (pt_cmpR op_ge (pe_ix (r := rIxL K) ix_list (pv 0) pe_int (fun _ _ => rfl)) (pv 1) (nomark _)) (pss_cons (ps_set (i := 2) sc_law_coin.nd rfl (Or.inl rfl) (pe_op op_mod (pe_ix (r := rIxL K) ix_list (pv 0) pe_int (fun _ _ => rfl)) (pv 1)))
            (pss_cons (ps_asg (pe_op op_fdivW (pe_ix (r := rIxL K) ix_list (pv 0) pe_int (fun _ _ => rfl)) (pv 1)) (pg_sub (pv 0) pe_int set_list))
            (pss_one (ps_ret (pv 2))))) pss_nil)
          (pss_cons (ps_asg (pe_op op_add (pe_ix (r := rIxL K) ix_list (pv 0) pe_int (fun _ _ => rfl)) pe_int) (pg_sub (pv 0) pe_int set_list))
          (pss_cons (ps_set (i := 3) sc_law_coin.nd rfl (Or.inl rfl) (pe_lst (pa_cons pe_int (pa_cons pe_int (pa_cons pe_int (pa_cons pe_int (pa_cons pe_int (pa_cons pe_int (pa_cons pe_int (pa_cons pe_int pa_nil))))))))))
          (pss_cons (ps_set (i := 4) sc_law_coin.nd rfl (Or.inl rfl) (pe_ix (r := rIxL K) ix_list (pv 3) (pe_op op_mod (pe_ix (r := rIxL K) ix_list (pv 0) pe_int (fun _ _ => rfl)) pe_int) (fun _ _ => rfl)))
          (pss_cons (ps_set (i := 5) sc_law_coin.nd rfl (Or.inl rfl) (pe_op op_add (pe_op op_mul (pe_op op_mod (pe_ix (r := rIxL K) ix_list (pv 0) pe_int (fun _ _ => rfl)) (pv 4)) (pe_op op_add (pe_op op_mul pe_int (pe_ix (r := rIxL K) ix_list (pv 0) pe_int (fun _ _ => rfl))) pe_int)) (pe_op op_mul pe_int (pe_ix (r := rIxL K) ix_list (pv 0) pe_int (fun _ _ => rfl)))))
          (pss_cons (ps_set (i := 5) sc_law_coin.nd rfl (Or.inl rfl) (pe_op op_mod (pe_op op_pow (pv 5) pe_int) (pv 4)))
          (pss_cons (ps_set (i := 6) sc_law_coin.nd rfl (Or.inl rfl) (pe_op op_add (pe_op op_add (pe_op op_mul (pv 5) (pv 5)) (pe_op op_mod (pe_ix (r := rIxL K) ix_list (pv 0) pe_int (fun _ _ => rfl)) pe_int)) (pe_ix (r := rIxL K) ix_list (pv 0) pe_int (fun _ _ => rfl))))
          (pss_one (ps_ret (pe_op op_mod (pe_op op_fdivW (pe_op op_mod (pe_op op_pow (pv 6) pe_int) (pe_ix (r := rIxL K) ix_list (pv 3) (pe_op op_mod (pe_op op_add (pe_ix (r := rIxL K) ix_list (pv 0) pe_int (fun _ _ => rfl)) pe_int) pe_int) (fun _ _ => rfl))) pe_int) (pv 1))))))))))), ?_⟩
    refine ⟨_, rfl, p, _, _, _, rfl, rfl, SqL.of hp, rfl, _, rfl, _, _, rfl, rfl, _, rfl, ite2 (fun c => ?_) (fun c => ?_)⟩
    · refine ⟨_, rfl, p, _, _, _, rfl, rfl, SqL.of hp, rfl, _, rfl, _, _, rfl, rfl, m0, ?_⟩
      refine ⟨_, rfl, p, _, _, _, rfl, rfl, SqL.of hp, rfl, _, rfl, _, _, rfl, rfl, mw, _, rfl, p, _, _, 0, rfl, rfl, hp, rfl, ?_⟩
      refine ⟨_, rfl, ?_⟩
      exact k _ _ (Int.emod_nonneg _ (by omega)) (Int.emod_lt_of_pos _ m0) ⟨own / many, seed, cnt, upd_same, Int.ediv_nonneg h1 (by omega), h2, h3, h4, by omega⟩ (fun b o nb hb => by rw [upd_ne nb]; exact hb)
    · -- purse[2] = purse[2] + 1
      refine ⟨_, rfl, p, _, _, _, rfl, rfl, SqL.of hp, rfl, _, _, rfl, rfl, _, rfl, p, _, _, 2, rfl, rfl, hp, rfl, ?_⟩
      obtain ⟨H1, e1⟩ : ∃ H1, H1 = upd H p (.lst [.int own, .int seed, .int (cnt + 1)]) := ⟨_, rfl⟩
      have p1 : H1 p = some (.lst [.int own, .int seed, .int (cnt + 1)]) := by rw [e1]; exact upd_same
      have k1 : Keep p H H1 := fun b o nb hb => by rw [e1, upd_ne nb]; exact hb
      show tSeq _ _ _ _ (upd H p (.lst [.int own, .int seed, .int (cnt + 1)]))
      rw [← e1]
      clear e1
      refine ⟨(by show 8 ≤ sizeLine; decide), fun q nq => ?_⟩
      obtain ⟨H2, e2⟩ : ∃ H2, H2 = upd H1 q (.lst primesL) := ⟨_, rfl⟩
      have q2 : H2 q = some (.lst primesL) := by rw [e2]; exact upd_same
      have s2 : Same H1 H2 := by rw [e2]; exact Same.new nq
      have p2 := s2 _ _ p1
      show tSeq _ _ _ _ (upd H1 q (.lst primesL))
      rw [← e2]
      clear e2
      obtain ⟨pr, a1, a2, a3⟩ := prime_at (i := (cnt + 1) % 8) (by omega) (by omega)
      obtain ⟨pr', b1, b2, b3⟩ := prime_at (i := (cnt + 1 + 3) % 8) (by omega) (by omega)
      have pr0 : (0 : Int) < pr := by omega
      have pr0' : (0 : Int) < pr' := by omega
      refine ⟨_, rfl, _, rfl, p, _, _, _, rfl, rfl, SqL.of p2, rfl, _, _, rfl, rfl, (by show (0 : Int) < 8; decide), q, _, _, _, rfl, rfl, SqL.of q2, a1, ?_⟩
      have x1 : 0 ≤ seed % pr := Int.emod_nonneg _ (by omega)
      have x2 : seed % pr < pr := Int.emod_lt_of_pos _ pr0
      refine ⟨_, rfl, p, _, _, _, rfl, rfl, SqL.of p2, rfl, _, rfl, _, _, rfl, rfl, pr0, _, rfl, p, _, _, _, rfl, rfl, SqL.of p2, rfl, _, _, rfl, rfl, .inl ⟨by decide, by decide⟩, _, _, rfl, rfl, _, _, rfl, rfl, .inl ⟨by omega, by omega⟩, _, rfl, p, _, _, _, rfl, rfl, SqL.of p2, rfl, _, _, rfl, rfl, .inl ⟨by decide, by decide⟩, _, _, rfl, rfl, ?_⟩
      have y1 : 0 ≤ seed % pr * (2 * (cnt + 1) + 5) := Int.mul_nonneg x1 (by omega)
      have y2 : seed % pr * (2 * (cnt + 1) + 5) ≤ 2147483489 * (2 * (cnt + 1) + 5) := Int.mul_le_mul_of_nonneg_right (by omega) (by omega)
      have z1 : 0 ≤ seed % pr * (2 * (cnt + 1) + 5) + 6007 * (cnt + 1) := by omega
      have z2 : seed % pr * (2 * (cnt + 1) + 5) + 6007 * (cnt + 1) < 2 ^ 64 := by omega
      have z3 : (seed % pr * (2 * (cnt + 1) + 5) + 6007 * (cnt + 1)).natAbs < 2 ^ 64 := by omega
      refine ⟨_, rfl, _, _, rfl, rfl, ⟨by decide, by decide, z3⟩, _, rfl, _, _, rfl, rfl, pr0, ?_⟩
      obtain ⟨one2, e2⟩ : ∃ one2, one2 = (seed % pr * (2 * (cnt + 1) + 5) + 6007 * (cnt + 1)) ^ (3 : Int).toNat % pr := ⟨_, rfl⟩
      have w1 : 0 ≤ one2 := e2 ▸ Int.emod_nonneg _ (by omega)
      have w2 : one2 < pr := e2 ▸ Int.emod_lt_of_pos _ pr0
      show tSeq _ _ _ [some (.ref p), some (.int many), none, some (.ref q), some (.int pr), some (.int ((seed % pr * (2 * (cnt + 1) + 5) + 6007 * (cnt + 1)) ^ (3 : Int).toNat % pr)), none] H2
      rw [← e2]
      clear e2
      refine ⟨_, rfl, _, rfl, _, _, rfl, rfl, .inl ⟨by omega, by omega⟩, _, rfl, p, _, _, _, rfl, rfl, SqL.of p2, rfl, _, _, rfl, rfl, (by show (0 : Int) < 1000033; decide), _, _, rfl, rfl, _, rfl, p, _, _, _, rfl, rfl, SqL.of p2, rfl, _, _, rfl, rfl, ?_⟩
      have v1 : 0 ≤ one2 * one2 := Int.mul_nonneg w1 w1
      have v2 : one2 * one2 ≤ 2147483489 * one2 := Int.mul_le_mul_of_nonneg_right (by omega) w1
      have t3 : (one2 * one2 + seed % 1000033 + (cnt + 1)).natAbs < 2 ^ 64 := by omega
      refine ⟨_, rfl, _, _, rfl, rfl, ⟨by decide, by decide, t3⟩, _, rfl, _, rfl, p, _, _, _, rfl, rfl, SqL.of p2, rfl, _, _, rfl, rfl, _, _, rfl, rfl, (by show (0 : Int) < 8; decide), q, _, _, _, rfl, rfl, SqL.of q2, b1, _, _, rfl, rfl, pr0', _, _, rfl, rfl, wide_div (b := 4) (by decide) (by decide) (by decide) (by decide), _, rfl, _, _, rfl, rfl, m0, ?_⟩
      exact k _ _ (Int.emod_nonneg _ (by omega)) (Int.emod_lt_of_pos _ m0) ⟨own, seed, cnt + 1, p2, h1, h2, h3, by omega, by omega⟩ (k1.trans (Keep.same s2))

/-! ### names -/
def lettersS : Str := "abcdefghijklmnopqrstuvwxyz"
theorem letters_cps : lettersS.cps.toList = List.range' 97 26 := by decide +kernel
theorem letters_len : lettersS.length ≤ sizeLine := by
  have h : lettersS.length = 26 := by decide +kernel
  rw [h]
  decide
theorem letter_at {i : Int} (h0 : 0 ≤ i) (h : i < 26) : atI lettersS.cps.toList i = some (97 + i.toNat) := by
  rw [letters_cps]
  have e : (List.range' 97 26)[i.toNat]? = some (97 + i.toNat) := by
    rw [List.getElem?_range' (by omega), Nat.one_mul]
  have k := atI_nat e
  rw [Int.toNat_of_nonneg h0] at k
  exact k
def Letters (s : Str) : Prop := ∀ c ∈ s.cps.toList, 97 ≤ c ∧ c ≤ 122
def NameS (s : Str) : Prop := 1 ≤ s.length ∧ s.length ≤ 8 ∧ Letters s
theorem Str_len (s : Str) : s.length = s.cps.toList.length := by
  show s.cps.size = _
  rw [Array.length_toList]
theorem joinL_nil : ∀ ps : List (List Nat), TL.joinL [] ps = ps.flatten
  | [] => rfl
  | [p] => by simp [TL.joinL]
  | p :: q :: r => by
    have h := joinL_nil (q :: r)
    show p ++ ([] ++ TL.joinL [] (q :: r)) = _
    rw [h]
    rfl
theorem join_tl (ys : List Str) : (Txt.join "" ys).cps.toList = (ys.map fun s => s.cps.toList).flatten := by
  have e : TL.tl (Txt.join "" ys) = TL.joinL (TL.tl "") (ys.map TL.tl) := by
    rw [TL.join_eq, TL.tl_join]
  have e2 : TL.tl ("" : Str) = [] := by decide +kernel
  rw [e2, joinL_nil] at e
  exact e
theorem flat_len : ∀ ys : List Str, (∀ s ∈ ys, s.length = 1) → (ys.map fun s => s.cps.toList).flatten.length = ys.length
  | [], _ => rfl
  | y :: ys, h => by
    have h1 := h y List.mem_cons_self
    have h2 := flat_len ys fun s hs => h s (List.mem_cons_of_mem _ hs)
    rw [Str_len] at h1
    show (y.cps.toList ++ _).length = _
    rw [List.length_append, h1, h2, List.length_cons]
    omega
theorem join_len {ys : List Str} (h : ∀ s ∈ ys, s.length = 1) : (Txt.join "" ys).length = ys.length := by
  rw [Str_len, join_tl, flat_len ys h]
theorem join_letters {ys : List Str} (h : ∀ s ∈ ys, Letters s) : Letters (Txt.join "" ys) := fun c hc => by
  rw [join_tl] at hc
  obtain ⟨l, hl, hcl⟩ := List.mem_flatten.mp hc
  obtain ⟨s, hs, rfl⟩ := List.mem_map.mp hl
  exact h s hs c hcl
theorem sum_ones : ∀ ys : List Str, (∀ s ∈ ys, s.length = 1) → (ys.map (·.length)).sum = ys.length
  | [], _ => rfl
  | y :: ys, h => by
    have h1 := h y List.mem_cons_self
    have h2 := sum_ones ys fun s hs => h s (List.mem_cons_of_mem _ hs)
    show y.length + (ys.map (·.length)).sum = _
    rw [h1, h2, List.length_cons]
    omega
theorem sign_len (c : Nat) : (⟨#[c]⟩ : Str).length = 1 := rfl
theorem sign_letters {c : Nat} (h1 : 97 ≤ c) (h2 : c ≤ 122) : Letters ⟨#[c]⟩ := fun d hd => by
  have e : d = c := by simpa using hd
  omega
theorem name_mk {s : Str} {c : Nat} (h1 : s.length ≤ 7) (h2 : Letters s) (h3 : 97 ≤ c) (h4 : c ≤ 122) : NameS (s ++ ⟨#[c]⟩) := by
  have e : (s ++ (⟨#[c]⟩ : Str)).length = s.length + 1 := by rw [Str.length_append, sign_len]
  refine ⟨by omega, by omega, fun d hd => ?_⟩
  rw [Str.cps_append, Array.toList_append, List.mem_append] at hd
  rcases hd with hd | hd
  · exact h2 d hd
  · exact sign_letters h3 h4 d hd
theorem small_size {n : Nat} (h : n ≤ 100000) : n ≤ sizeLine := Nat.le_trans h (by decide)
def spNames : Sp := fun vs H Q _ => ∃ (p : Addr) (many n : Int), vs = [.ref p, .int many] ∧ Pu H p n ∧ 0 ≤ many ∧ many ≤ 1000 ∧ n + 9 * many < 2 ^ 30 ∧
  ∀ (q : Addr) (ns : List Str) (H' : Hp), H q = none → (ns.length : Int) = many → (∀ s ∈ ns, NameS s) → H' q = some (.lst (ns.map V.str)) → Pu H' p (n + 9 * many) → Keep p H H' → Q (.ref q) H'
abbrev s_law_names : Stmt := topS 22
theorem sc_law_names : FnScope ["purse", "many", "letters", "found", "at", "word", "turn"] ["purse", "many"] (defScope s_law_names) := ⟨rfl, rfl, rfl, by decide +kernel, rfl, by decide +kernel, by decide +kernel⟩
theorem ok_names {f : Addr} {fd : FuncData} (F : Fun K "_law_names" "_law_names" s_law_names f fd) (T : Txt mg) (c_coin : Cal P w K mg base 1 "_law_coin" ["purse", "many"] spCoin) : FnOk P w K mg base CX0 2 f fd ["purse", "many"] spNames := by
  refine F.ok sc_law_names (fun vs H Q E h => ?_) (fun cdv A outer s H vs Q E hr h => ?_)
  · obtain ⟨p, many, n, rfl, _⟩ := h
    rfl
  · obtain ⟨p, many, n, rfl, u, hm0, hm1, hn, k⟩ := h
    obtain ⟨f_coin, fd_coin, G_coin, m_coin, k_coin, b_coin⟩ := c_coin
    refine ⟨_, (pss_cons (ps_set (i := 2) sc_law_names.nd rfl (Or.inr rfl) pe_str)
          (pss_cons (ps_set (i := 3) sc_law_names.nd rfl (Or.inl rfl) (pe_lst pa_nil))
          (pss_cons (ps_for PassesOwn.never rfl (pi_range1 rfl T.b_range (pa_cons (pv 1) pa_nil)) (pg_name (i := 4) sc_law_names.nd rfl (Or.inl rfl))
           (pss_cons (ps_set (i := 5) sc_law_names.nd rfl (Or.inl rfl) (pe_m1 PySem.F.slot_str_join PySem.F.type_str_join mt_join pe_str (pe_lc (own := [("turn", 6)]) (g := gName 6) (tt := tYes) rfl sc_law_names.nd (pi_range1 rfl T.b_range (pa_cons (pe_call G_coin (hr.mono (by decide)) rfl m_coin k_coin b_coin .nil pass0 (pa_cons (pv 0) (pa_cons pe_int pa_nil))) pa_nil)) (blkOk_by (N := ["purse", "many", "letters", "found", "at", "word", "turn"]) (sc := defScope s_law_names) (by decide +kernel)) (fun _ _ _ _ _ => (pg_name (i := 6) sc_law_names.nd rfl (Or.inl rfl))) (fun _ _ _ _ _ => pts_nil) (fun _ _ _ _ _ => (pe_ix ix_str (pv 2) (pe_call G_coin (hr.mono (by decide)) rfl m_coin k_coin b_coin .nil pass0 (pa_cons (pv 0) (pa_cons pe_int pa_nil))) (fun _ _ => rfl))))))
            (pss_one (ps_expr (pe_bm PySem.F.plainAttrs_list PySem.F.slot_list_append PySem.F.type_list_append mt_append (pv 3) (pa_cons (pe_op op_add_str (pv 5) (pe_ix ix_str (pv 2) (pe_op op_mod (pe_op op_add (pv 4) (pe_op op_mul (pe_call G_coin (hr.mono (by decide)) rfl m_coin k_coin b_coin .nil pass0 (pa_cons (pv 0) (pa_cons pe_int pa_nil))) pe_int)) pe_int) (fun _ _ => rfl))) pa_nil))))))
          (pss_one (ps_ret (pv 3)))))), ?_⟩
    refine ⟨Nat.zero_le _, fun q nq => ?_⟩
    have pq : p ≠ q := by
      obtain ⟨_, _, _, e, _⟩ := u
      exact ne_of_none e nq
    have kq : Keep p H (upd H q (.lst [])) := Keep.same (Same.new nq)
    refine ⟨_, rfl, _, rfl, by omega, by omega, for_range (lo := 0) (fun i σ h => ∃ (ns : List Str) (v4 v5 v6 : Option V), σ = [some (.ref p), some (.int many), some (.str lettersS), some (.ref q), v4, v5, v6] ∧ ns.length = i ∧ (∀ s ∈ ns, NameS s) ∧ h q = some (.lst (ns.map V.str)) ∧ Keep p H h ∧ Pu h p (n + 9 * i))
      ⟨[], _, _, _, rfl, rfl, (fun s hs => by cases hs), upd_same, kq, (u.same (Same.new nq)).mono (by omega)⟩ ?_ ?_⟩
    · rintro i σ h hi ⟨ns, v4, v5, v6, rfl, hl, hN, hq, kp, u1⟩
      have hi2 : (i : Int) < many := by
        have : i < many.toNat := hi
        omega
      refine ⟨⟨_, rfl⟩, _, rfl, p, _, _, rfl, u1, by omega, by decide, by decide, fun r h2 ra rb u2 k2 => ?_⟩
      have hq2 := k2 _ _ pq.symm hq
      refine ⟨_, rfl, by omega, by omega, fun D nD => ?_⟩
      have qD : q ≠ D := ne_of_none hq2 nD
      have pD : p ≠ D := by
        obtain ⟨_, _, _, e, _⟩ := u2
        exact ne_of_none e nD
      have kD : Keep p H (upd h2 D (.lst [])) := (kp.trans k2).trans (Keep.same (Same.new nD))
      refine lc_range (lo := 0) (fun j g => ∃ ys : List Str, ys.length = j ∧ (∀ s ∈ ys, s.length = 1) ∧ (∀ s ∈ ys, Letters s) ∧ g D = some (.lst (ys.map V.str)) ∧ g q = some (.lst (ns.map V.str)) ∧ (∀ b o, b ≠ p → b ≠ D → h2 b = some o → g b = some o) ∧ Pu g p (n + 9 * i + 1 + j))
        ⟨[], rfl, (fun s hs => by cases hs), (fun s hs => by cases hs), upd_same, (by rw [upd_ne qD]; exact hq2), (fun b o _ nb e => by rw [upd_ne nb]; exact e), (u2.same (Same.new nD)).mono (by omega)⟩ ?_ ?_
      · rintro j g hj ⟨ys, hy, hy1, hyL, hD, hq3, kp3, u3⟩
        have hj2 : (j : Int) < r := by
          have : j < r.toNat := hj
          omega
        refine ⟨rfl, yesC ⟨_, rfl, _, rfl, p, _, _, rfl, u3, by omega, by decide, by decide, fun r2 g2 r2a r2b u4 k4 => ?_⟩⟩
        have hD2 := k4 _ _ pD.symm hD
        refine ⟨lettersS, _, _, rfl, rfl, letters_len, letter_at r2a r2b, _, hD2, by rw [List.length_map]; exact Nat.lt_of_lt_of_le (show ys.length < 100 by omega) (by decide), ?_⟩
        have uD : ∀ b, b ≠ D → (upd g2 D (.lst (ys.map V.str ++ [.str ⟨#[97 + r2.toNat]⟩]))) b = g2 b := fun b nb => upd_ne nb
        refine ⟨ys ++ [⟨#[97 + r2.toNat]⟩], by rw [List.length_append, hy]; rfl, fun s hs => ?_, fun s hs => ?_, by rw [upd_same, List.map_append]; rfl, by rw [uD _ qD]; exact k4 _ _ pq.symm hq3, fun b o np nb e => by rw [uD _ nb]; exact k4 _ _ np (kp3 b o np nb e), ?_⟩
        · rcases List.mem_append.mp hs with hs | hs
          · exact hy1 s hs
          · rw [List.mem_singleton.mp hs]
            exact sign_len _
        · rcases List.mem_append.mp hs with hs | hs
          · exact hyL s hs
          · rw [List.mem_singleton.mp hs]
            exact sign_letters (by omega) (by omega)
        · obtain ⟨o1, o2, o3, e, r⟩ := u4.mono (show n + 9 * (i : Int) + 1 + j + 1 ≤ n + 9 * (i : Int) + 1 + ((j + 1 : Nat) : Int) by omega)
          exact ⟨o1, o2, o3, by rw [uD _ pD]; exact e, r⟩
      · rintro g ⟨ys, hy, hy1, hyL, hD, hq3, kp3, u3⟩
        have hy7 : ys.length ≤ 7 := by omega
        refine ⟨_, D, ys, rfl, rfl, .inl (SqL.of hD), ?_, ?_⟩
        · rw [sum_ones ys hy1]
          show ys.length + ys.length * 0 ≤ 16777216
          omega
        have wl := join_len hy1
        have wL := join_letters hyL
        refine ⟨_, rfl, .inl ⟨rfl, _, SqL.of hq3⟩, _, rfl, _, rfl, _, rfl, _, rfl, p, _, _, rfl, u3, by omega, by decide, by decide, fun r3 g3 r3a r3b u4 k4 => ?_⟩
        have hq4 := k4 _ _ pq.symm hq3
        refine ⟨_, _, rfl, rfl, .inr ⟨by decide, by decide⟩, _, _, rfl, rfl, _, _, rfl, rfl, (by show (0 : Int) < 26; decide), lettersS, _, _, rfl, rfl, letters_len, letter_at (Int.emod_nonneg _ (by decide)) (Int.emod_lt_of_pos _ (by decide)), _, _, rfl, rfl, ?_, ?_⟩
        · rw [sign_len, wl]
          exact small_size (by omega)
        refine ⟨q, _, _, rfl, rfl, hq4, by rw [List.length_map]; exact Nat.lt_of_lt_of_le (show ns.length < 2000 by omega) (by decide), ?_⟩
        have uq : ∀ b, b ≠ q → (upd g3 q (.lst (ns.map V.str ++ [.str (Txt.join "" ys ++ ⟨#[97 + ((0 + (i : Int) + r3 * 13) % 26).toNat]⟩)]))) b = g3 b := fun b nb => upd_ne nb
        refine ⟨ns ++ [Txt.join "" ys ++ ⟨#[97 + ((0 + (i : Int) + r3 * 13) % 26).toNat]⟩], _, _, _, rfl, by rw [List.length_append, hl]; rfl, fun s hs => ?_, by rw [List.map_append]; exact upd_same, fun b o nb e => ?_, ?_⟩
        · rcases List.mem_append.mp hs with hs | hs
          · exact hN s hs
          · rw [List.mem_singleton.mp hs]
            have z1 : 0 ≤ (0 + (i : Int) + r3 * 13) % 26 := Int.emod_nonneg _ (by decide)
            have z2 : (0 + (i : Int) + r3 * 13) % 26 < 26 := Int.emod_lt_of_pos _ (by decide)
            exact name_mk (by omega) wL (by omega) (by omega)
        · have e1 := kp b o nb e
          have nbq : b ≠ q := ne_of_none e nq
          rw [uq b nbq]
          exact k4 _ _ nb (kp3 b o nb (ne_of_none (k2 _ _ nb e1) nD) (k2 _ _ nb e1))
        · obtain ⟨o1, o2, o3, e, r⟩ := u4.mono (show n + 9 * (i : Int) + 1 + (r.toNat : Int) + 1 ≤ n + 9 * ((i + 1 : Nat) : Int) by omega)
          exact ⟨o1, o2, o3, by rw [uq _ pq]; exact e, r⟩
    · rintro σ h ⟨ns, v4, v5, v6, rfl, hl, hN, hq, kp, u1⟩
      refine ⟨_, rfl, ?_⟩
      have e : (many.toNat : Int) = many := Int.toNat_of_nonneg hm0
      exact k q ns h nq (by omega) hN hq (by rw [e] at u1; exact u1) kp

/-! ### kinds -/
/-- anything: None, a truth, a number, a text, a list, a tuple -/
def AnyV (H : Hp) : V → Prop
  | .non => True
  | .bl _ => True
  | .int _ => True
  | .str s => s.length ≤ 100000
  | .ref a => (∃ xs, H a = some (.lst xs)) ∨ ∃ xs, H a = some (.tup xs)
  | _ => False
def wholeV : V → Bool
  | .int _ => true
  | _ => false
def rangeV (lo hi : Int) : V → Bool
  | .int i => decide (lo ≤ i) && decide (i ≤ hi)
  | _ => false
def nameB (s : Str) : Bool := (decide ((1 : Int) ≤ s.length) && decide ((s.length : Int) ≤ 8)) && s.cps.toList.all fun c => decide (97 ≤ c) && decide (c ≤ 122)
def nameV : V → Bool
  | .str s => nameB s
  | _ => false
theorem nameB_of {s : Str} (h : NameS s) : nameB s = true := by
  obtain ⟨h1, h2, h3⟩ := h
  unfold nameB
  rw [Bool.and_eq_true, Bool.and_eq_true, decide_eq_true_eq, decide_eq_true_eq, List.all_eq_true]
  refine ⟨⟨by omega, by omega⟩, fun c hc => ?_⟩
  rw [Bool.and_eq_true, decide_eq_true_eq, decide_eq_true_eq]
  exact h3 c hc
def spWhole (K : PySem.W.Frag) : Sp := fun vs H Q _ => ∃ x, vs = [x] ∧ AnyV H x ∧ Q (.bl (wholeV x)) H
abbrev s_is_whole : Stmt := topS 10
theorem sc_is_whole : FnScope ["told"] ["told"] (defScope s_is_whole) := ⟨rfl, rfl, rfl, by decide +kernel, rfl, by decide +kernel, by decide +kernel⟩
theorem ok_whole {f : Addr} {fd : FuncData} (F : Fun K "is_whole" "is_whole" s_is_whole f fd) (T : Txt mg) : FnOk P w K mg base CX0 1 f fd ["told"] (spWhole K) := by
  refine F.ok sc_is_whole (fun vs H Q E h => ?_) (fun cdv A outer s H vs Q E hr h => ?_)
  · obtain ⟨x, rfl, _⟩ := h
    rfl
  · obtain ⟨x, rfl, hx, k⟩ := h
    refine ⟨_, (pss_one (ps_ret (pe_and (pe_callB call_isi (by rfl) T.b_isinstance (by decide +kernel) (pa_cons (pv 0) (pa_cons (pe_bltn (v := .ty "int") (by rfl) T.b_int (by decide +kernel) rfl) pa_nil))) (pe_one (pe_not (pe_callB call_isi (by rfl) T.b_isinstance (by decide +kernel) (pa_cons (pv 0) (pa_cons (pe_bltn (v := .ty "bool") (by rfl) T.b_bool (by decide +kernel) rfl) pa_nil)))))))), ?_⟩
    cases x with
    | non => exact ⟨_, rfl, _, _, _, _, false, rfl, .ty "int", .base .non, kit_ty (by decide +kernel), _, rfl, iteF k⟩
    | bl b => exact ⟨_, rfl, _, _, _, _, true, rfl, .ty "int", .base (.bl _), kit_ty (by decide +kernel), _, rfl, iteT ⟨_, rfl, _, _, _, _, true, rfl, .ty "bool", .base (.bl _), kit_ty (by decide +kernel), _, rfl, k⟩⟩
    | int i => exact ⟨_, rfl, _, _, _, _, true, rfl, .ty "int", .base (.int _), kit_ty (by decide +kernel), _, rfl, iteT ⟨_, rfl, _, _, _, _, false, rfl, .ty "bool", .base (.int _), kit_ty (by decide +kernel), _, rfl, k⟩⟩
    | str t => exact ⟨_, rfl, _, _, _, _, false, rfl, .ty "int", .base (.str _), kit_ty (by decide +kernel), _, rfl, iteF k⟩
    | ref a =>
      rcases hx with ⟨xs, e⟩ | ⟨xs, e⟩
      · exact ⟨_, rfl, _, _, _, _, false, rfl, .ty "int", .base (.lst e), kit_ty (by decide +kernel), _, rfl, iteF k⟩
      · exact ⟨_, rfl, _, _, _, _, false, rfl, .ty "int", .base (.tup e), kit_ty (by decide +kernel), _, rfl, iteF k⟩
    | byt b => exact hx.elim
    | flt b => exact hx.elim
    | ty n => exact hx.elim
def spRange (lo hi : Int) : Sp := fun vs H Q _ => ∃ x, vs = [x] ∧ AnyV H x ∧ Q (.bl (rangeV lo hi x)) H
abbrev s_is_price : Stmt := topS 11
theorem sc_is_price : FnScope ["told"] ["told"] (defScope s_is_price) := ⟨rfl, rfl, rfl, by decide +kernel, rfl, by decide +kernel, by decide +kernel⟩
theorem ok_price {f : Addr} {fd : FuncData} (F : Fun K "is_price" "is_price" s_is_price f fd) (T : Txt mg) (c_whole : Cal P w K mg base 1 "is_whole" ["told"] (spWhole K)) : FnOk P w K mg base CX0 2 f fd ["told"] (spRange 1 1000000) := by
  refine F.ok sc_is_price (fun vs H Q E h => ?_) (fun cdv A outer s H vs Q E hr h => ?_)
  · obtain ⟨x, rfl, _⟩ := h
    rfl
  · obtain ⟨x, rfl, hx, k⟩ := h
    obtain ⟨f_is_whole, fd_is_whole, G_is_whole, m_is_whole, k_is_whole, b_is_whole⟩ := c_whole
    obtain ⟨_, mG_HIGHEST_PRICE⟩ := T.mg_HIGHEST_PRICE
    refine ⟨_, (pss_one (ps_ret (pe_and (pe_call G_is_whole (hr.mono (by decide)) rfl m_is_whole k_is_whole b_is_whole .nil pass0 (pa_cons (pv 0) pa_nil)) (pe_one (pe_chain op_le op_le pe_int (pv 0) (pe_glob (v := .int 1000000) rfl mG_HIGHEST_PRICE ⟨_, rfl⟩)))))), ?_⟩
    refine ⟨_, rfl, _, rfl, hx, _, rfl, ?_⟩
    cases x with
    | int i =>
      refine iteT ⟨_, rfl, _, _, rfl, rfl, _, rfl, ?_⟩
      refine ite2 (fun c => ?_) (fun c => ?_)
      · refine ⟨_, _, rfl, rfl, ?_⟩
        have e : rangeV 1 1000000 (.int i) = decide (i ≤ 1000000) := by
          show (decide ((1 : Int) ≤ i) && decide (i ≤ 1000000)) = _
          rw [c, Bool.true_and]
        rw [e] at k
        exact k
      · have e : rangeV 1 1000000 (.int i) = false := by
          show (decide ((1 : Int) ≤ i) && decide (i ≤ 1000000)) = _
          rw [Bool.eq_false_iff.mpr c, Bool.false_and]
        rw [e] at k
        exact k
    | non => exact iteF k
    | bl b => exact iteF k
    | str t => exact iteF k
    | ref a => exact iteF k
    | byt b => exact hx.elim
    | flt b => exact hx.elim
    | ty n => exact hx.elim

def aS : Str := "a"
def zS : Str := "z"
theorem a_cps : aS.cps.toList = [97] := by decide +kernel
theorem z_cps : zS.cps.toList = [122] := by decide +kernel
theorem lt1 (a b : Nat) : ([a] < [b]) ↔ a < b := by
  constructor
  · intro h
    cases h with
    | rel h => exact h
    | cons h => cases h
  · intro h
    exact List.Lex.rel h
def signB (c : Nat) : Bool := decide (97 ≤ c) && decide (c ≤ 122)
theorem le_a (c : Nat) : (!decide (([c] : List Nat) < [97])) = decide (97 ≤ c) := by
  by_cases h : c < 97
  · rw [decide_eq_true ((lt1 c 97).mpr h), decide_eq_false (show ¬ 97 ≤ c by omega)]
    rfl
  · rw [decide_eq_false (fun z => h ((lt1 c 97).mp z)), decide_eq_true (show 97 ≤ c by omega)]
    rfl
theorem le_z (c : Nat) : (!decide (([122] : List Nat) < [c])) = decide (c ≤ 122) := by
  by_cases h : 122 < c
  · rw [decide_eq_true ((lt1 122 c).mpr h), decide_eq_false (show ¬ c ≤ 122 by omega)]
    rfl
  · rw [decide_eq_false (fun z => h ((lt1 122 c).mp z)), decide_eq_true (show c ≤ 122 by omega)]
    rfl
def spName : Sp := fun vs H Q _ => ∃ x, vs = [x] ∧ AnyV H x ∧ ∀ H', Same H H' → Q (.bl (nameV x)) H'
abbrev s_is_name : Stmt := topS 13
theorem sc_is_name : FnScope ["told", "sign"] ["told"] (defScope s_is_name) := ⟨rfl, rfl, rfl, by decide +kernel, rfl, by decide +kernel, by decide +kernel⟩
theorem ok_name {f : Addr} {fd : FuncData} (F : Fun K "is_name" "is_name" s_is_name f fd) (T : Txt mg) : FnOk P w K mg base CX0 1 f fd ["told"] spName := by
  refine F.ok sc_is_name (fun vs H Q E h => ?_) (fun cdv A outer s H vs Q E hr h => ?_)
  · obtain ⟨x, rfl, _⟩ := h
    rfl
  · obtain ⟨x, rfl, hx, k⟩ := h
    obtain ⟨_, mG_LONGEST_NAME⟩ := T.mg_LONGEST_NAME
    refine ⟨_, (pss_cons (ps_if (PW.pt (pw_or (pt_not (pt_val (pe_callB call_isi (by rfl) T.b_isinstance (by decide +kernel) (pa_cons (pv 0) (pa_cons (pe_bltn (v := .ty "str") (by rfl) T.b_str (by decide +kernel) rfl) pa_nil))))) (pw_or1 (pt_not (pt_chain op_le op_le pe_int (pe_callB call_len_str (by rfl) T.b_len PySem.boot_len (pa_cons (pv 0) pa_nil)) (pe_glob (v := .int 8) rfl mG_LONGEST_NAME ⟨_, rfl⟩)))))) (pss_one (ps_ret pe_bl)) pss_nil)
          (pss_one (ps_ret (pe_callB (cr_all rfl) (by rfl) T.b_all (by decide +kernel) (pa_cons (pe_lc (own := [("sign", 1)]) (g := gName 1) (tt := tYes) rfl sc_is_name.nd (pi_str (pv 0)) (blkOk_by (N := ["told", "sign"]) (sc := defScope s_is_name) (by decide +kernel)) (fun _ _ _ _ _ => (pg_name (i := 1) sc_is_name.nd rfl (Or.inl rfl))) (fun _ _ _ _ _ => pts_nil) (fun _ _ _ _ _ => (pe_chain op_le_str op_le_str pe_str (pv 1) pe_str))) pa_nil))))), ?_⟩
    cases x with
    | non => exact ⟨_, rfl, _, _, _, _, false, rfl, .ty "str", .base .non, kit_ty (by decide +kernel), _, rfl, iteT (iteT (k H (Same.refl H)))⟩
    | bl b => exact ⟨_, rfl, _, _, _, _, false, rfl, .ty "str", .base (.bl _), kit_ty (by decide +kernel), _, rfl, iteT (iteT (k H (Same.refl H)))⟩
    | int i => exact ⟨_, rfl, _, _, _, _, false, rfl, .ty "str", .base (.int _), kit_ty (by decide +kernel), _, rfl, iteT (iteT (k H (Same.refl H)))⟩
    | ref a =>
      rcases hx with ⟨xs, e⟩ | ⟨xs, e⟩
      · exact ⟨_, rfl, _, _, _, _, false, rfl, .ty "str", .base (.lst e), kit_ty (by decide +kernel), _, rfl, iteT (iteT (k H (Same.refl H)))⟩
      · exact ⟨_, rfl, _, _, _, _, false, rfl, .ty "str", .base (.tup e), kit_ty (by decide +kernel), _, rfl, iteT (iteT (k H (Same.refl H)))⟩
    | byt b => exact hx.elim
    | flt b => exact hx.elim
    | ty n => exact hx.elim
    | str t =>
      have ht : t.length ≤ sizeLine := Nat.le_trans hx (by decide)
      refine ⟨_, rfl, _, _, _, _, true, rfl, .ty "str", .base (.str _), kit_ty (by decide +kernel), _, rfl, iteF ?_⟩
      refine ⟨_, rfl, _, rfl, ht, _, _, rfl, rfl, _, rfl, ?_⟩
      have no : ∀ b : Bool, (decide ((1 : Int) ≤ t.length) && decide ((t.length : Int) ≤ 8)) = b → nameB t = (b && t.cps.toList.all fun c => decide (97 ≤ c) && decide (c ≤ 122)) := fun b e => by
        unfold nameB
        rw [e]
      refine ite2 (fun c1 => ?_) (fun c1 => ?_)
      · refine ⟨_, _, rfl, rfl, _, rfl, ?_⟩
        refine ite2 (fun c2 => ?_) (fun c2 => ?_)
        · have c3 : decide ((t.length : Int) ≤ 8) = false := by
            have c4 : (!decide ((t.length : Int) ≤ 8)) = true := c2
            rw [Bool.not_eq_true'] at c4
            exact c4
          have e := no false (by rw [c3, Bool.and_false])
          have k1 := k H (Same.refl H)
          rw [show nameV (.str t) = nameB t from rfl, e, Bool.false_and] at k1
          exact k1
        · have c3 : decide ((t.length : Int) ≤ 8) = true := by
            cases h : decide ((t.length : Int) ≤ 8) with
            | true => rfl
            | false => exact absurd (show (!decide ((t.length : Int) ≤ 8)) = true by rw [h]; rfl) c2
          have e := no true (by rw [show decide ((1 : Int) ≤ t.length) = true from c1, c3]; rfl)
          rw [Bool.true_and] at e
          have hl : t.length ≤ 8 := by
            have := of_decide_eq_true c3
            omega
          refine ⟨_, rfl, t, rfl, fun D nD => ?_⟩
          refine lc_it walk_str (fun i h => ∃ bs : List Bool, bs = (t.cps.toList.take i).map signB ∧ h D = some (.lst (bs.map V.bl)) ∧ ∀ b o, H b = some o → h b = some o)
            ⟨[], rfl, upd_same, fun b o e => by rw [upd_ne (ne_of_none e nD)]; exact e⟩ (fun _ _ _ _ => trivial) ?_ ?_
          · rintro i x h h' hi ⟨bs, rfl, hD, hk⟩ ⟨rfl, c, hc, rfl⟩
            refine ⟨rfl, yesC ?_⟩
            have hi2 : i < t.length := hi
            have el : ((t.cps.toList.take i).map signB).length = i := by
              rw [List.length_map, List.length_take, ← Str_len]
              omega
            have st : (t.cps.toList.take (i + 1)).map signB = (t.cps.toList.take i).map signB ++ [signB c] := by
              have q : t.cps.toList[i]? = some c := by rw [Array.getElem?_toList]; exact hc
              rw [List.take_add_one, q, List.map_append]
              rfl
            have fin : ∃ acc, h' D = some (.lst acc) ∧ acc.length < sizeLine ∧ ∃ bs : List Bool, bs = (t.cps.toList.take (i + 1)).map signB ∧ (upd h' D (.lst (acc ++ [.bl (signB c)]))) D = some (.lst (bs.map V.bl)) ∧ ∀ b o, H b = some o → (upd h' D (.lst (acc ++ [.bl (signB c)]))) b = some o := by
              refine ⟨_, hD, ?_, _, rfl, ?_, fun b o e => by rw [upd_ne (ne_of_none e nD)]; exact hk b o e⟩
              · rw [List.length_map, el]
                exact Nat.lt_of_lt_of_le (show i < 100 by omega) (by decide)
              · rw [upd_same, st, List.map_append]
                rfl
            refine ⟨_, rfl, aS, _, rfl, rfl, _, rfl, ?_⟩
            refine ite2 (fun d => ?_) (fun d => ?_)
            · refine ⟨_, zS, rfl, rfl, ?_⟩
              have d1 : decide (97 ≤ c) = true := by
                rw [← le_a]
                have d2 : (!decide (([c] : List Nat) < aS.cps.toList)) = true := d
                rw [a_cps] at d2
                exact d2
              have e5 : (!decide (zS.cps.toList < ([c] : List Nat))) = signB c := by
                rw [z_cps, le_z]
                unfold signB
                rw [d1, Bool.true_and]
              show ∃ acc, h' D = some (.lst acc) ∧ acc.length < sizeLine ∧ ∃ bs : List Bool, bs = (t.cps.toList.take (i + 1)).map signB ∧ (upd h' D (.lst (acc ++ [.bl (!decide (zS.cps.toList < ([c] : List Nat)))]))) D = some (.lst (bs.map V.bl)) ∧ ∀ b o, H b = some o → (upd h' D (.lst (acc ++ [.bl (!decide (zS.cps.toList < ([c] : List Nat)))]))) b = some o
              rw [e5]
              exact fin
            · have d1 : decide (97 ≤ c) = false := by
                rw [← le_a]
                have d2 : ¬ (!decide (([c] : List Nat) < aS.cps.toList)) = true := d
                rw [a_cps] at d2
                exact Bool.eq_false_iff.mpr d2
              have e5 : signB c = false := by
                unfold signB
                rw [d1, Bool.false_and]
              rw [e5] at fin
              exact fin
          · rintro h ⟨bs, rfl, hD, hk⟩
            refine ⟨D, _, rfl, SqL.of hD, ?_⟩
            have k1 := k h hk
            have e6 : ((t.cps.toList.take t.cps.size).map signB).all id = nameB t := by
              rw [e, List.take_of_length_le (by rw [Array.length_toList]; exact Nat.le_refl _), List.all_map]
              rfl
            rw [e6]
            exact k1
      · refine ⟨_, rfl, iteT ?_⟩
        have e := no false (by rw [show decide ((1 : Int) ≤ t.length) = false from Bool.eq_false_iff.mpr c1, Bool.false_and])
        have k1 := k H (Same.refl H)
        rw [show nameV (.str t) = nameB t from rfl, e, Bool.false_and] at k1
        exact k1

/-! ### the first that isn't so -/
def firstW : List (Str × Bool) → V
  | [] => .non
  | (w, b) :: r => if b = true then firstW r else .str w
def Told (H : Hp) (x : V) (wb : Str × Bool) : Prop := ∃ t, x = .ref t ∧ H t = some (.tup [.str wb.1, .bl wb.2])
def spFirst (K : PySem.W.Frag) : Sp := fun vs H Q _ => ∃ (l : Addr) (xs : List V) (ws : List (Str × Bool)), vs = [.ref l] ∧ H l = some (.lst xs) ∧ Paired (Told H) xs ws ∧ Q (firstW ws) H
theorem paired_at {α β : Type} {R : α → β → Prop} : ∀ {xs : List α} {ys : List β} {i : Nat} {x : α}, Paired R xs ys → xs[i]? = some x → ∃ y, ys[i]? = some y ∧ R x y
  | _, _, _, _, .nil, e => by simp at e
  | _, _, 0, _, .cons r _, e => by simp at e; subst e; exact ⟨_, rfl, r⟩
  | _, _, i + 1, _, .cons _ k, e => by
    obtain ⟨y, h1, h2⟩ := paired_at k (i := i) (by simpa using e)
    exact ⟨y, by simpa using h1, h2⟩
abbrev s_first_wrong : Stmt := topS 17
theorem sc_first_wrong : FnScope ["parts", "word", "so"] ["parts"] (defScope s_first_wrong) := ⟨rfl, rfl, rfl, by decide +kernel, rfl, by decide +kernel, by decide +kernel⟩
theorem ok_first {f : Addr} {fd : FuncData} (F : Fun K "first_wrong" "first_wrong" s_first_wrong f fd) : FnOk P w K mg base CX0 1 f fd ["parts"] (spFirst K) := by
  refine F.ok sc_first_wrong (fun vs H Q E h => ?_) (fun cdv A outer s H vs Q E hr h => ?_)
  · obtain ⟨l, xs, ws, rfl, _⟩ := h
    rfl
  · obtain ⟨l, xs, ws, rfl, hl, hp, k⟩ := h
    refine ⟨_, (pss_cons (ps_for PassesOwn.never rfl (pi_list (pv 0)) (pg_tup rfl (pgs_cons (pg_name (i := 1) sc_first_wrong.nd rfl (Or.inl rfl)) (pgs_cons (pg_name (i := 2) sc_first_wrong.nd rfl (Or.inl rfl)) pgs_nil)))
           (pss_one (ps_if (pt_not (pt_truth (pv 2) (by intro _; rfl))) (pss_one (ps_ret (pv 1))) pss_nil)))
          (pss_one (ps_ret pe_non))), ?_⟩
    have len : xs.length = ws.length := Paired.length hp
    refine ⟨_, rfl, l, rfl, ⟨_, SqL.of hl⟩, for_list (K := K) (a := l) (xs := xs) (fun i σ h => h = H ∧ firstW ws = firstW (ws.drop i) ∧ ∃ v1 v2, σ = [some (.ref l), v1, v2]) ⟨rfl, rfl, _, _, rfl⟩ (fun _ _ _ _ ⟨e, _⟩ => by rw [e]; exact SqL.of hl) ?_ ?_⟩
    · rintro i x σ h hi ⟨rfl, e, v1, v2, rfl⟩
      obtain ⟨⟨wd, b⟩, hw, t, rfl, ht⟩ := paired_at hp hi
      have dr : ws.drop i = (wd, b) :: ws.drop (i + 1) := by
        obtain ⟨h1, h2⟩ := List.getElem?_eq_some_iff.mp hw
        rw [List.drop_eq_getElem_cons h1, h2]
      refine ⟨t, _, rfl, SqT.of ht, rfl, _, _, rfl, _, _, rfl, rfl, ?_⟩
      refine ⟨_, rfl, b, rfl, ?_⟩
      rw [e, dr] at k
      cases b with
      | true =>
        refine iteF ?_
        refine ⟨rfl, ?_, _, _, rfl⟩
        rw [e, dr]
        exact if_pos rfl
      | false =>
        refine iteT ?_
        exact ⟨_, rfl, k⟩
    · rintro σ h ⟨rfl, e, v1, v2, rfl⟩
      rw [e, len, List.drop_length] at k
      exact k

/-! ### the refusal BadThing -/
def spOwned : Sp := fun vs H Q _ => ∃ s : Str, vs = [.str s] ∧ Q (.str s) H
abbrev s_owned : Stmt := topS 1
theorem sc_owned : FnScope ["told", "part"] ["told"] (defScope s_owned) := ⟨rfl, rfl, rfl, by decide +kernel, rfl, by decide +kernel, by decide +kernel⟩
theorem ok_owned {f : Addr} {fd : FuncData} (F : Fun K "owned" "owned" s_owned f fd) (T : Txt mg) (m_owned : mg "owned" = some (.ref f)) (k_owned : PySem.W.keepIn K (.ref f) = true) (b_owned : Binds K fd ["told"] []) : FnOk P w K mg base CX0 1 f fd ["told"] spOwned := by
  have G_owned : FnOk P w K mg base CX0 0 f fd ["told"] (fun _ _ _ _ => False) := ⟨fun _ _ _ _ z => z.elim, fun _ _ _ _ _ _ _ _ _ _ _ _ _ z => z.elim⟩
  refine F.ok sc_owned (fun vs H Q E h => ?_) (fun cdv A outer s H vs Q E hr h => ?_)
  · obtain ⟨s, rfl, _⟩ := h
    rfl
  · obtain ⟨t, rfl, k⟩ := h
    refine ⟨_, (pss_cons (ps_if (pt_val (pe_callB call_isi (by rfl) T.b_isinstance (by decide +kernel) (pa_cons (pv 0) (pa_cons (pe_bltn (v := .ty "list") (by rfl) T.b_list (by decide +kernel) rfl) pa_nil)))) (pss_one (ps_ret (pe_lc (own := [("part", 1)]) (g := gName 1) (tt := tYes) rfl sc_owned.nd (pi_list (pv 0)) (blkOk_by (N := ["told", "part"]) (sc := defScope s_owned) (by decide +kernel)) (fun _ _ _ _ _ => (pg_name (i := 1) sc_owned.nd rfl (Or.inl rfl))) (fun _ _ _ _ _ => pts_nil) (fun _ _ _ _ _ => (pe_call G_owned (hr.mono (by decide)) rfl m_owned k_owned b_owned .nil pass0 (pa_cons (pv 1) pa_nil)))))) pss_nil)
          (pss_cons (ps_if (pt_val (pe_callB call_isi (by rfl) T.b_isinstance (by decide +kernel) (pa_cons (pv 0) (pa_cons (pe_bltn (v := .ty "tuple") (by rfl) T.b_tuple (by decide +kernel) rfl) pa_nil)))) (pss_one (ps_ret (pe_callTy call_tuple_of (by rfl) T.b_tuple (by decide +kernel) (pa_cons (pe_lc (own := [("part", 1)]) (g := gName 1) (tt := tYes) rfl sc_owned.nd (pi_list (pv 0)) (blkOk_by (N := ["told", "part"]) (sc := defScope s_owned) (by decide +kernel)) (fun _ _ _ _ _ => (pg_name (i := 1) sc_owned.nd rfl (Or.inl rfl))) (fun _ _ _ _ _ => pts_nil) (fun _ _ _ _ _ => (pe_call G_owned (hr.mono (by decide)) rfl m_owned k_owned b_owned .nil pass0 (pa_cons (pv 1) pa_nil)))) pa_nil)))) pss_nil)
          (pss_one (ps_ret (pv 0))))), ?_⟩
    refine ⟨_, rfl, _, _, _, _, false, rfl, .ty "list", .base (.str _), kit_ty (by decide +kernel), _, rfl, iteF ?_⟩
    refine ⟨_, rfl, _, _, _, _, false, rfl, .ty "tuple", .base (.str _), kit_ty (by decide +kernel), _, rfl, iteF ?_⟩
    exact ⟨_, rfl, k⟩
def spBadThing (K : PySem.W.Frag) (C : Addr) : Sp := fun vs H Q _ => ∃ (a : Addr) (s : Str), vs = [.ref a, .str s] ∧ H a = some (exo a C none) ∧ ∀ dx, H dx = none → dx ≠ a → Q .non (upd (upd H dx (exd dx [("word", .str s)])) a (exo a C (some dx)))
abbrev s_BadThing_init : Stmt := inClass (topS 3) 0
theorem sc_BadThing_init : FnScope ["self", "word"] ["self", "word"] (defScope s_BadThing_init) := ⟨rfl, rfl, rfl, by decide +kernel, rfl, by decide +kernel, by decide +kernel⟩
theorem ok_bad_init {f C : Addr} {fd : FuncData} (F : Fun K "__init__" "BadThing.__init__" s_BadThing_init f fd) (O : OexC K C) (no : PySem.W.findIn K (.ref C) "word" = some none) (c_owned : Cal P w K mg base 1 "owned" ["told"] spOwned) : FnOk P w K mg base CX0 2 f fd ["self", "word"] (spBadThing K C) := by
  refine F.ok sc_BadThing_init (fun vs H Q E h => ?_) (fun cdv A outer s H vs Q E hr h => ?_)
  · obtain ⟨a, s, rfl, _⟩ := h
    rfl
  · obtain ⟨a, t, rfl, ha, k⟩ := h
    obtain ⟨f_owned, fd_owned, G_owned, m_owned, k_owned, b_owned⟩ := c_owned
    refine ⟨_, (pss_one (ps_ost (pv 0) (pe_call G_owned (hr.mono (by decide)) rfl m_owned k_owned b_owned .nil pass0 (pa_cons (pv 1) pa_nil)))), ?_⟩
    exact ⟨_, rfl, t, rfl, _, rfl, a, C, rfl, O, no, .inl ⟨ha, fun dx n ne => k dx n ne⟩⟩

/-! ### what is handed in: anything -/
inductive Od (H : Hp) : V → PyData → Prop
  | non : Od H .non .none
  | bl (b : Bool) : Od H (.bl b) (.bool b)
  | int {i : Int} (h : i.natAbs < 2 ^ 256) : Od H (.int i) (.int i)
  | str {s : Str} (h : s.length ≤ 40) (h2 : PyData.strOk s = true) : Od H (.str s) (.str s)
  | l0 {a : Addr} (e : H a = some (.lst [])) : Od H (.ref a) (.list [])
  | t0 {a : Addr} (e : H a = some (.tup [])) : Od H (.ref a) (.tuple [])
  | l1 {a : Addr} {s : Str} (e : H a = some (.lst [.str s])) (h : s.length ≤ 40) (h2 : PyData.strOk s = true) : Od H (.ref a) (.list [.str s])
  | t1 {a : Addr} {s : Str} (e : H a = some (.tup [.str s])) (h : s.length ≤ 40) (h2 : PyData.strOk s = true) : Od H (.ref a) (.tuple [.str s])
  | l2 {a b : Addr} {s : Str} (e : H a = some (.lst [.ref b])) (e2 : H b = some (.lst [.str s])) (h : s.length ≤ 40) (h2 : PyData.strOk s = true) : Od H (.ref a) (.list [.list [.str s]])
theorem Od.move {p : Addr} {H H' : Hp} {n : Int} {x : V} {d : PyData} (h : Od H x d) (k : Keep p H H') (u : Pu H p n) : Od H' x d := by
  obtain ⟨_, _, _, e0, _⟩ := u
  have ne : ∀ {b : Addr} {o : HO}, H b = some o → o ≠ .lst [.int _, .int _, .int _] → b ≠ p := fun e no z => by
    rw [z, e0] at e
    exact no (Option.some.inj e).symm
  cases h with
  | non => exact .non
  | bl b => exact .bl b
  | int h => exact .int h
  | str h h2 => exact .str h h2
  | l0 e => exact .l0 (k _ _ (ne e (fun z => by cases z)) e)
  | t0 e => exact .t0 (k _ _ (ne e (fun z => by cases z)) e)
  | l1 e h h2 => exact .l1 (k _ _ (ne e (fun z => by cases z)) e) h h2
  | t1 e h h2 => exact .t1 (k _ _ (ne e (fun z => by cases z)) e) h h2
  | l2 e e2 h h2 => exact .l2 (k _ _ (ne e (fun z => by cases z)) e) (k _ _ (ne e2 (fun z => by cases z)) e2) h h2
theorem Od.same {H H' : Hp} {x : V} {d : PyData} (h : Od H x d) (k : Same H H') : Od H' x d := by
  cases h with
  | non => exact .non
  | bl b => exact .bl b
  | int h => exact .int h
  | str h h2 => exact .str h h2
  | l0 e => exact .l0 (k _ _ e)
  | t0 e => exact .t0 (k _ _ e)
  | l1 e h h2 => exact .l1 (k _ _ e) h h2
  | t1 e h h2 => exact .t1 (k _ _ e) h h2
  | l2 e e2 h h2 => exact .l2 (k _ _ e) (k _ _ e2) h h2
theorem Od.dp {K : PySem.W.Frag} {H : Hp} {x : V} {d : PyData} (h : Od H x d) : Dp K H x d := by
  cases h with
  | non => exact .non
  | bl b => exact .bl b
  | int h => exact .int _
  | str h h2 => exact .str _
  | l0 e => exact .lst (SqL.of e) .nil
  | t0 e => exact .tup (SqT.of e) .nil
  | l1 e h h2 => exact .lst (SqL.of e) (.cons (.str _) .nil)
  | t1 e h h2 => exact .tup (SqT.of e) (.cons (.str _) .nil)
  | l2 e e2 h h2 => exact .lst (SqL.of e) (.cons (.lst (SqL.of e2) (.cons (.str _) .nil)) .nil)
theorem Od.any {H : Hp} {x : V} {d : PyData} (h : Od H x d) : AnyV H x := by
  cases h with
  | non => exact True.intro
  | bl b => exact True.intro
  | int h => exact True.intro
  | str h h2 => exact Nat.le_trans h (by decide)
  | l0 e => exact .inl ⟨_, e⟩
  | t0 e => exact .inr ⟨_, e⟩
  | l1 e h h2 => exact .inl ⟨_, e⟩
  | t1 e h h2 => exact .inr ⟨_, e⟩
  | l2 e e2 h h2 => exact .inl ⟨_, e⟩
theorem Od.lay {H : Hp} {x : V} {d : PyData} (h : Od H x d) : d.canLay0 = true := by
  cases h <;> simp_all [PyData.canLay0, PyData.canLayAll0]
theorem Od.depth {H : Hp} {x : V} {d : PyData} (h : Od H x d) : d.depth ≤ 2 := by
  cases h <;> simp [PyData.depth, PyData.depthAll]
theorem Od.shaped {H : Hp} {x : V} {d : PyData} (h : Od H x d) : SeqAt.shaped d = true := by
  have := h.depth
  show (d.canLay0 && decide (d.depth ≤ 64)) = true
  rw [h.lay, decide_eq_true (by omega)]
  rfl
theorem str_shaped {s : Str} (h : PyData.strOk s = true) : SeqAt.shaped (.str s) = true := by
  show ((PyData.str s).canLay0 && decide ((PyData.str s).depth ≤ 64)) = true
  simp [PyData.canLay0, PyData.depth, h]
/-- x in (..), any data -/
def rInT (K : PySem.W.Frag) : R2 := fun x y H Q => ∃ d ds, Dp K H x d ∧ Dp K H y (.tuple ds) ∧ SeqAt.shaped d = true ∧ SeqAt.shaped (.tuple ds) = true ∧ Q (.bl (ds.any fun z => PyData.eqv z d)) H
theorem op_inT {X : Cx} (hu : X.A.units + 65 < cLine) : OpR X (PySem.compareOp .In) (rInT X.K) := by
  intro pins s σ H x y v u Q I rx ry h
  obtain ⟨d, ds, hd, he, sd, se, q⟩ := h
  obtain ⟨as, r1⟩ := Dp.reads I d x v hd rx
  obtain ⟨bs, r2⟩ := Dp.reads I (.tuple ds) y u he ry
  exact SeqAt.in_tuple_reads r2 r1 (SeqAt.canLay_of_shaped se) (SeqAt.canLay_of_shaped sd) (PyProof.Rows.room_in_shaped sd hu) ⟨.bl _, H, I, rfl, q⟩

abbrev s_is_band : Stmt := topS 12
theorem sc_is_band : FnScope ["told"] ["told"] (defScope s_is_band) := ⟨rfl, rfl, rfl, by decide +kernel, rfl, by decide +kernel, by decide +kernel⟩
theorem ok_band {f : Addr} {fd : FuncData} (F : Fun K "is_band" "is_band" s_is_band f fd) (T : Txt mg) (c_whole : Cal P w K mg base 1 "is_whole" ["told"] (spWhole K)) : FnOk P w K mg base CX0 2 f fd ["told"] (spRange 0 1000000) := by
  refine F.ok sc_is_band (fun vs H Q E h => ?_) (fun cdv A outer s H vs Q E hr h => ?_)
  · obtain ⟨x, rfl, _⟩ := h
    rfl
  · obtain ⟨x, rfl, hx, k⟩ := h
    obtain ⟨f_is_whole, fd_is_whole, G_is_whole, m_is_whole, k_is_whole, b_is_whole⟩ := c_whole
    obtain ⟨_, mG_WIDEST_BAND⟩ := T.mg_WIDEST_BAND
    refine ⟨_, (pss_one (ps_ret (pe_and (pe_call G_is_whole (hr.mono (by decide)) rfl m_is_whole k_is_whole b_is_whole .nil pass0 (pa_cons (pv 0) pa_nil)) (pe_one (pe_chain op_le op_le pe_int (pv 0) (pe_glob (v := .int 1000000) rfl mG_WIDEST_BAND ⟨_, rfl⟩)))))), ?_⟩
    refine ⟨_, rfl, _, rfl, hx, _, rfl, ?_⟩
    cases x with
    | int i =>
      refine iteT ⟨_, rfl, _, _, rfl, rfl, _, rfl, ?_⟩
      refine ite2 (fun c => ?_) (fun c => ?_)
      · refine ⟨_, _, rfl, rfl, ?_⟩
        have e : rangeV 0 1000000 (.int i) = decide (i ≤ 1000000) := by
          show (decide ((0 : Int) ≤ i) && decide (i ≤ 1000000)) = _
          rw [c, Bool.true_and]
        rw [e] at k
        exact k
      · have e : rangeV 0 1000000 (.int i) = false := by
          show (decide ((0 : Int) ≤ i) && decide (i ≤ 1000000)) = _
          rw [Bool.eq_false_iff.mpr c, Bool.false_and]
        rw [e] at k
        exact k
    | non => exact iteF k
    | bl b => exact iteF k
    | str t => exact iteF k
    | ref a => exact iteF k
    | byt b => exact hx.elim
    | flt b => exact hx.elim
    | ty n => exact hx.elim

/-! ### listed -/
def ruleB (d : PyData) : Bool := [PyData.str "rank", PyData.str "share"].any fun z => PyData.eqv z d
def isNon : V → Bool
  | .non => true
  | _ => false
def wrongOf (x1 x2 x3 : V) (d4 : PyData) : V := firstW [("name", nameV x1), ("start", rangeV 1 1000000 x2), ("band", isNon x3 || rangeV 0 1000000 x3), ("rule", ruleB d4)]
def spListed (C : Addr) : Sp := fun vs H Q E => ∃ (x1 x2 x3 x4 : V) (d1 d2 d3 d4 : PyData), vs = [x1, x2, x3, x4] ∧ Od H x1 d1 ∧ Od H x2 d2 ∧ Od H x3 d3 ∧ Od H x4 d4 ∧
  (wrongOf x1 x2 x3 d4 = .non → ∀ t H', Same H H' → H' t = some (.tup [x1, x2, x3, x4]) → Q (.ref t) H') ∧
  ∀ s : Str, wrongOf x1 x2 x3 d4 = .str s → ∀ d H', Same H H' → H' d = some (.xd [("word", .str s)]) → E (.ref C) (some d) H'
theorem firstW_or : ∀ ws : List (Str × Bool), firstW ws = .non ∨ ∃ s, firstW ws = .str s
  | [] => .inl rfl
  | (x, b) :: r => by
    cases b with
    | true => exact firstW_or r
    | false => exact .inr ⟨x, rfl⟩
theorem iteT' {c : Prop} [Decidable c] {A B : Prop} (hc : c) (h : A) : if c then A else B := by rw [if_pos hc]; exact h
theorem rule_shaped : SeqAt.shaped (.tuple [.str "rank", .str "share"]) = true := by decide +kernel
abbrev s_listed : Stmt := topS 18
theorem sc_listed : FnScope ["name", "start", "band", "rule", "wrong"] ["name", "start", "band", "rule"] (defScope s_listed) := ⟨rfl, rfl, rfl, by decide +kernel, rfl, by decide +kernel, by decide +kernel⟩
theorem ok_listed {f C fI : Addr} {fd fdI : FuncData} (F : Fun K "listed" "listed" s_listed f fd) (T : Txt mg) (O : OexC K C) (aI : PySem.W.findIn K (.ref C) "__init__" = some (some (.ref fI))) (tI : PySem.W.typeIn K (.ref fI) = some (.type "function")) (GI : FnOk P w K mg base CX0 2 fI fdI ["self", "word"] (spBadThing K C))
    (bI : Binds K fdI ["self", "word"] []) (mC : mg "BadThing" = some (.ref C)) (c_name : Cal P w K mg base 1 "is_name" ["told"] spName) (c_price : Cal P w K mg base 2 "is_price" ["told"] (spRange 1 1000000)) (c_band : Cal P w K mg base 2 "is_band" ["told"] (spRange 0 1000000)) (c_first : Cal P w K mg base 1 "first_wrong" ["parts"] (spFirst K)) :
    FnOk P w K mg base (L2.CX P w) 5 f fd ["name", "start", "band", "rule"] (spListed C) := by
  refine F.okX sc_listed (fun vs H Q E h => ?_) (fun cdv A outer s H vs Q E hr h => ?_)
  · obtain ⟨x1, x2, x3, x4, _, _, _, _, rfl, _⟩ := h
    rfl
  · obtain ⟨x1, x2, x3, x4, d1, d2, d3, d4, rfl, o1, o2, o3, o4, kq, ke⟩ := h
    obtain ⟨f_is_name, fd_is_name, G_is_name, m_is_name, k_is_name, b_is_name⟩ := c_name
    obtain ⟨f_is_price, fd_is_price, G_is_price, m_is_price, k_is_price, b_is_price⟩ := c_price
    obtain ⟨f_is_band, fd_is_band, G_is_band, m_is_band, k_is_band, b_is_band⟩ := c_band
    obtain ⟨f_first_wrong, fd_first_wrong, G_first_wrong, m_first_wrong, k_first_wrong, b_first_wrong⟩ := c_first
    have hu65 : (A.deeper (PyProof.Rows.envOfC "listed" (defScope s_listed) s.heap.objs.size f cdv)).units + 65 < cLine := by
      have := hr.un
      omega
    obtain ⟨_, mG_RANK⟩ := T.mg_RANK
    obtain ⟨_, mG_SHARE⟩ := T.mg_SHARE
    refine ⟨_, (pss_cons (ps_set (i := 4) sc_listed.nd rfl (Or.inl rfl) (pe_call G_first_wrong (hr.mono (by decide)) rfl m_first_wrong k_first_wrong b_first_wrong .nil pass0 (pa_cons (pe_lst (pa_cons (pe_tup (pa_cons pe_str (pa_cons (pe_call G_is_name (hr.mono (by decide)) rfl m_is_name k_is_name b_is_name .nil pass0 (pa_cons (pv 0) pa_nil)) pa_nil))) (pa_cons (pe_tup (pa_cons pe_str (pa_cons (pe_call G_is_price (hr.mono (by decide)) rfl m_is_price k_is_price b_is_price .nil pass0 (pa_cons (pv 1) pa_nil)) pa_nil))) (pa_cons (pe_tup (pa_cons pe_str (pa_cons (pe_or (pe_cmpR op_isN (pv 2) pe_non (nomark _)) (pe_one (pe_call G_is_band (hr.mono (by decide)) rfl m_is_band k_is_band b_is_band .nil pass0 (pa_cons (pv 2) pa_nil)))) pa_nil))) (pa_cons (pe_tup (pa_cons pe_str (pa_cons (pe_cmpR (op_inT hu65) (pv 3) (pe_tup (pa_cons (pe_glob (v := .str "rank") rfl mG_RANK ⟨_, rfl⟩) (pa_cons (pe_glob (v := .str "share") rfl mG_SHARE ⟨_, rfl⟩) pa_nil))) (by rfl)) pa_nil))) pa_nil))))) pa_nil)))
          (pss_cons (ps_if (pt_cmpR op_notN (pv 4) pe_non (nomark _)) (pss_one (ps_raise rfl (takes_of rfl rfl rfl rfl) (pmk_oex O aI tI GI (hr.mono (by decide)) bI .nil pass0 rfl mC (pa_cons (pv 4) pa_nil)))) pss_nil)
          (pss_one (ps_ret (pe_tup (pa_cons (pv 0) (pa_cons (pv 1) (pa_cons (pv 2) (pa_cons (pv 3) pa_nil))))))))), ?_⟩
    refine ⟨_, rfl, x1, rfl, o1.any, fun H1 s1 => ⟨(by show 2 ≤ sizeLine; decide), fun t1 n1 => ?_⟩⟩
    have w1 : Same H (upd H1 t1 (.tup [.str "name", .bl (nameV x1)])) := s1.trans (Same.new n1)
    refine ⟨_, rfl, x2, rfl, (o2.same w1).any, (by show 2 ≤ sizeLine; decide), fun t2 n2 => ?_⟩
    have w2 := w1.trans (Same.new n2 (o := .tup [.str "start", .bl (rangeV 1 1000000 x2)]))
    have fin : ∀ H', Same H H' → (tSeq (tIfS (tTest (tOp (fun x y H Q => y = V.non ∧ Q (V.bl (!decide (x = V.non))) H) (tVar 4) (tC V.non))) (fun D σ H => tMkO C (spBadThing K C) [] (tCons (tVar 4) tNil) σ H fun cls d H' => E cls d H') tNext)
        (tRet (tTup (tCons (tVar 0) (tCons (tVar 1) (tCons (tVar 2) (tCons (tVar 3) tNil)))))) { nx := fun _ H' => Q .non H', rt := Q } [some x1, some x2, some x3, some x4, some (wrongOf x1 x2 x3 d4)] H') := by
      intro H1 s1
      rcases firstW_or [("name", nameV x1), ("start", rangeV 1 1000000 x2), ("band", isNon x3 || rangeV 0 1000000 x3), ("rule", ruleB d4)] with e | ⟨z, e⟩
      · have e' : wrongOf x1 x2 x3 d4 = .non := e
        rw [e']
        refine ⟨_, rfl, rfl, _, rfl, iteNS rfl ?_⟩
        exact ⟨_, rfl, _, rfl, _, rfl, _, rfl, (by show 4 ≤ sizeLine; decide), fun t nt => kq e' t _ (s1.trans (Same.new nt)) upd_same⟩
      · have e' : wrongOf x1 x2 x3 d4 = .str z := e
        rw [e']
        refine ⟨_, rfl, rfl, _, rfl, iteT' rfl ?_⟩
        refine ⟨_, rfl, (by show 1 ≤ 1000; decide), fun a na => ⟨a, z, rfl, upd_same, fun dx ndx nea => ?_⟩⟩
        have nd1 : H1 dx = none := by
          rw [upd_ne nea] at ndx
          exact ndx
        refine ⟨rfl, dx, _, upd_same, (by rw [upd_ne nea]; exact upd_same), nd1, ke z e' dx _ (fun b o q => ?_) upd_same⟩
        have q1 := s1 b o q
        have ba : b ≠ a := ne_of_none q1 na
        have bd : b ≠ dx := ne_of_none q1 nd1
        rw [upd_ne bd, del_ne ba, upd_ne ba, upd_ne bd, upd_ne ba]
        exact q1
    refine ⟨_, rfl, rfl, _, rfl, ite2 (fun c => ?_) (fun c => ?_)⟩
    · have e3 : (isNon x3 || rangeV 0 1000000 x3) = true := by
        rw [of_decide_eq_true c]
        rfl
      refine ⟨(by show 2 ≤ sizeLine; decide), fun t3 n3 => ?_⟩
      have w3 := w2.trans (Same.new n3 (o := .tup [.str "band", .bl true]))
      refine ⟨_, rfl, (by show 2 ≤ sizeLine; decide), fun t4 n4 => ?_⟩
      have w4 := w3.trans (Same.new n4 (o := .tup [.str "rank", .str "share"]))
      refine ⟨d4, [.str "rank", .str "share"], (o4.same w4).dp, .tup (SqT.of upd_same) (.cons (.str _) (.cons (.str _) .nil)), o4.shaped, rule_shaped, (by show 2 ≤ sizeLine; decide), fun t5 n5 => ?_⟩
      have g4 : ∀ {o : HO}, Same _ (upd _ t4 o) := Same.new n4
      have g5 := Same.new n5 (o := .tup [.str "rule", .bl (ruleB d4)])
      have w5 := w4.trans g5
      refine ⟨(by show 4 ≤ sizeLine; decide), fun l nl => ?_⟩
      have g6 := Same.new nl (o := .lst [.ref t1, .ref t2, .ref t3, .ref t5])
      have w6 := w5.trans g6
      refine ⟨l, _, [("name", nameV x1), ("start", rangeV 1 1000000 x2), ("band", true), ("rule", ruleB d4)], rfl, upd_same, .cons ⟨t1, rfl, ?_⟩ (.cons ⟨t2, rfl, ?_⟩ (.cons ⟨t3, rfl, ?_⟩ (.cons ⟨t5, rfl, ?_⟩ .nil))), ?_⟩
      · exact g6 _ _ (g5 _ _ (Same.new n4 _ _ (Same.new n3 _ _ (Same.new n2 _ _ upd_same))))
      · exact g6 _ _ (g5 _ _ (Same.new n4 _ _ (Same.new n3 _ _ upd_same)))
      · exact g6 _ _ (g5 _ _ (Same.new n4 _ _ upd_same))
      · exact g6 _ _ upd_same
      have ew : wrongOf x1 x2 x3 d4 = firstW [("name", nameV x1), ("start", rangeV 1 1000000 x2), ("band", true), ("rule", ruleB d4)] := by
        unfold wrongOf
        rw [e3]
      rw [← ew]
      exact fin _ w6
    · have e3 : (isNon x3 || rangeV 0 1000000 x3) = rangeV 0 1000000 x3 := by
        cases x3 with
        | non => exact absurd (decide_eq_true rfl) c
        | _ => rfl
      refine ⟨_, rfl, x3, rfl, (o3.same w2).any, ?_⟩
      refine ⟨(by show 2 ≤ sizeLine; decide), fun t3 n3 => ?_⟩
      have w3 := w2.trans (Same.new n3 (o := .tup [.str "band", .bl (rangeV 0 1000000 x3)]))
      refine ⟨_, rfl, (by show 2 ≤ sizeLine; decide), fun t4 n4 => ?_⟩
      have w4 := w3.trans (Same.new n4 (o := .tup [.str "rank", .str "share"]))
      refine ⟨d4, [.str "rank", .str "share"], (o4.same w4).dp, .tup (SqT.of upd_same) (.cons (.str _) (.cons (.str _) .nil)), o4.shaped, rule_shaped, (by show 2 ≤ sizeLine; decide), fun t5 n5 => ?_⟩
      have g4 : ∀ {o : HO}, Same _ (upd _ t4 o) := Same.new n4
      have g5 := Same.new n5 (o := .tup [.str "rule", .bl (ruleB d4)])
      have w5 := w4.trans g5
      refine ⟨(by show 4 ≤ sizeLine; decide), fun l nl => ?_⟩
      have g6 := Same.new nl (o := .lst [.ref t1, .ref t2, .ref t3, .ref t5])
      have w6 := w5.trans g6
      refine ⟨l, _, [("name", nameV x1), ("start", rangeV 1 1000000 x2), ("band", (rangeV 0 1000000 x3)), ("rule", ruleB d4)], rfl, upd_same, .cons ⟨t1, rfl, ?_⟩ (.cons ⟨t2, rfl, ?_⟩ (.cons ⟨t3, rfl, ?_⟩ (.cons ⟨t5, rfl, ?_⟩ .nil))), ?_⟩
      · exact g6 _ _ (g5 _ _ (Same.new n4 _ _ (Same.new n3 _ _ (Same.new n2 _ _ upd_same))))
      · exact g6 _ _ (g5 _ _ (Same.new n4 _ _ (Same.new n3 _ _ upd_same)))
      · exact g6 _ _ (g5 _ _ (Same.new n4 _ _ upd_same))
      · exact g6 _ _ upd_same
      have ew : wrongOf x1 x2 x3 d4 = firstW [("name", nameV x1), ("start", rangeV 1 1000000 x2), ("band", (rangeV 0 1000000 x3)), ("rule", ruleB d4)] := by
        unfold wrongOf
        rw [e3]
      rw [← ew]
      exact fin _ w6

/-! ### _law_told -/
section
open PySem.Spec PyProof.Rows
/-- f(e, .., k = v, ..) of a def that may raise, at these slots -/
def tCallNS (n m : Nat) (sp : Sp) (gV : List V → List V → List V) (E : L2.St → XK) (t tk : TA) : TE := fun σ H Q => t σ H fun vs H1 => tk σ H1 fun zs H2 => vs.length = n ∧ zs.length = m ∧ sp (gV vs zs) H2 Q (E σ)
theorem pe_callNS {X : Cx} {CX : CXT} {k n : Nat} {f : Addr} {fd : FuncData} {ps ks : List Str} {sp : Sp} {E : L2.St → XK} {x : Str} {p pos : Pos} {e : Expr} {es : List Expr} {kws : List Keyword} {t tk : TA} {g : List Value → List Value → List Value} {gV : List V → List V → List V}
    (F : FnOk X.prog X.w X.K X.mg X.base CX k f fd ps sp) (hr : Room k X.A) (hg : Gl X x) (hm : X.mg x = some (.ref f)) (hk : PySem.W.keepIn X.K (.ref f) = true) (hb : KBn X.K fd ps n ks g gV) (out : ∀ σ, PassesAt CX X σ (E σ))
    (ha : PA X (e :: es) t) (hw : PK X kws tk) (every : (backToKw pos (keywordEach kws X.env)).all (·.1.isSome) = true := by rfl) (called : (backToKw pos (keywordEach kws X.env)).filterMap (·.1) = ks := by rfl)
    (dbg : (x == ("__debug__" : Str)) = false := by decide) (each : starEach (e :: es) X.env = (false, eval e X.env) :: starEach es X.env := by rfl)
    (plain : ((backTo pos (starEach (e :: es) X.env)).any (·.1) || (backToKw pos (keywordEach kws X.env)).any (·.1.isNone)) = false := by rfl) :
    PE X (.Call (.Name x p) (e :: es) kws pos) (tCallNS n ks.length sp gV E t tk) := by
  refine ⟨fun pins s σ H Q I says => wpAny_Call_Name_kw (ld_glob I hg hm ?_ dbg)⟩
  refine PySem.W.callWith_KW (h₀ := X.base) I.ok.mod.kin hk every (thn (ha.run pos pins s σ H _ I says) fun us s1 ⟨vs, H1, I1, r, q⟩ => thn (hw.run pos pins s1 σ H1 _ I1 q) fun ws s2 ⟨zs, H2, I2, rz, l1, l2, q2⟩ => ⟨I2.kIn, ?_⟩) plain each
  rw [called]
  refine wpAny_call (codeAny_mono (F.run X.A X.stack s2 H2 ⟨us, ks.zip ws⟩ (g us ws) (gV vs zs) Q (E σ) hr I2.env0 (hb.to s2 us ws I2.kIn (r.length.symm.trans l1) (rz.length.symm.trans l2)) (hb.rel r rz) q2) fun out1 t1 told => ?_)
  match out1, told with
  | .error e, told => exact out σ pins H2 s2 e t1 I2 told
  | .ok (.ret u), told => exact I2.after told
  | .ok .next, told => exact False.elim told
  | .ok .brk, told => exact False.elim told
  | .ok .cont, told => exact False.elim told
end
def outB (d : PyData) : Bool := PyData.eqv d (.str "out")
def bandOf (x : V) (d : PyData) : V := if outB d = true then .non else x
def ruleOf (x : V) (d : PyData) : V := if outB d = true then .str "rank" else x
def ruleD (d : PyData) : PyData := if outB d = true then .str "rank" else d
def toldW (x1 x2 x3 : V) (d3 d4 : PyData) : V := wrongOf x1 x2 (bandOf x3 d3) (ruleD d4)
def Answer (H : Hp) (t : Addr) (x1 x2 x3 x4 : V) (d3 d4 : PyData) : Prop := (toldW x1 x2 x3 d3 d4 = .non ∧ ∃ u, H t = some (.tup [.str "told", .ref u]) ∧ H u = some (.tup [x1, x2, bandOf x3 d3, ruleOf x4 d4])) ∨
  ∃ s, toldW x1 x2 x3 d3 d4 = .str s ∧ H t = some (.tup [.str "bad", .str s])
def spTold : Sp := fun vs H Q _ => ∃ (l : Addr) (x1 x2 x3 x4 : V) (d1 d2 d3 d4 : PyData), vs = [.ref l] ∧ H l = some (.lst [x1, x2, x3, x4]) ∧ Od H x1 d1 ∧ Od H x2 d2 ∧ Od H x3 d3 ∧ Od H x4 d4 ∧
  ∀ t H', Same H H' → Answer H' t x1 x2 x3 x4 d3 d4 → Q (.ref t) H'
abbrev gS : List V → List V → List V := fun us ws => us ++ ws
structure LTxt (K : PySem.W.Frag) (mg : Str → Option Value) (C CH CO CN : Addr) : Prop where
  mC : mg "BadThing" = some (.ref C)
  mH : mg "HallError" = some (.ref CH)
  mO : mg "BadOrder" = some (.ref CO)
  mN : mg "NoThing" = some (.ref CN)
  ex : PySem.W.exmOne K (.ref C) (.ref CH) = some true
  i1 : PySem.W.kitOne K (.ref C) (.ref C) = some true
  i2 : PySem.W.kitOne K (.ref C) (.type "ValueError") = some true
  i3 : PySem.W.kitAny K (.ref C) [.ref CO, .ref CN] = some false
  xc : ExcC K C
  xf : XfC K C
  no : PySem.W.findIn K (.ref C) "word" = some none
theorem out_shaped : SeqAt.shaped (.str "out") = true := by decide +kernel
abbrev s_law_told : Stmt := topS 24
theorem sc_law_told : FnScope ["parts", "caught", "found", "e"] ["parts"] (defScope s_law_told) := ⟨rfl, rfl, rfl, by decide +kernel, rfl, by decide +kernel, by decide +kernel⟩
theorem ok_told {f C CH CO CN : Addr} {fd fdL : FuncData} {fL : Addr} {g1 g2 g3 g4 : List Value → List Value → List Value} (F : Fun K "_law_told" "_law_told" s_law_told f fd) (T : Txt mg) (O : LTxt K mg C CH CO CN) (G_listed : FnOk P w K mg base (L2.CX P w) 5 fL fdL ["name", "start", "band", "rule"] (spListed C))
    (m_listed : mg "listed" = some (.ref fL)) (k_listed : PySem.W.keepIn K (.ref fL) = true) (kb1 : KBn K fdL ["name", "start", "band", "rule"] 2 [] g1 (fun us _ => us ++ [.non, .str "rank"])) (kb2 : KBn K fdL ["name", "start", "band", "rule"] 2 ["rule"] g2 (fun us ws => us ++ [.non] ++ ws))
    (kb3 : KBn K fdL ["name", "start", "band", "rule"] 2 ["band"] g3 (fun us ws => us ++ ws ++ [.str "rank"])) (kb4 : KBn K fdL ["name", "start", "band", "rule"] 2 ["rule", "band"] g4 (fun us ws => us ++ ws.reverse)) : FnOk P w K mg base CX0 6 f fd ["parts"] spTold := by
  refine F.ok sc_law_told (fun vs H Q E h => ?_) (fun cdv A outer s H vs Q E hr h => ?_)
  · obtain ⟨l, _, _, _, _, _, _, _, _, rfl, _⟩ := h
    rfl
  · obtain ⟨l, x1, x2, x3, x4, d1, d2, d3, d4, rfl, hl, o1, o2, o3, o4, k⟩ := h
    have nd := sc_law_told.nd
    refine ⟨_, pss_cons (ps_set (i := 1) nd rfl (Or.inl rfl) pe_non) (pss_cons (ps_set (i := 2) nd rfl (Or.inl rfl) pe_non)
      (C8.pss_cut (ps_try_keep (i := 3) (ts := fun _ _ _ => tAsg (tVar 3) (gName 1)) rfl rfl rfl nd rfl rfl ⟨rfl, by decide, .inl O.mH⟩ takes0 (fun W pn xe tk _ => (pss_one (ps_if (PW.pt (pw_and (pt_cmpR (show OpR _ _ (rEqD K) from op_eqD hr.units) (pe_ix (r := rIxL K) ix_list (pv 0) pe_int (fun _ _ => rfl)) pe_str (nomark _)) (pw_and1 (pt_cmpR (show OpR _ _ (rEqD K) from op_eqD hr.units) (pe_ix (r := rIxL K) ix_list (pv 0) pe_int (fun _ _ => rfl)) pe_str (nomark _)))))
          (pss_one (ps_set (i := 2) nd rfl (Or.inl rfl) (pe_callNS G_listed (hr.mono (by decide)) rfl m_listed k_listed kb1 (fun σ => passAt tk σ) (pa_cons (pe_ix (r := rIxL K) ix_list (pv 0) pe_int (fun _ _ => rfl)) (pa_cons (pe_ix (r := rIxL K) ix_list (pv 0) pe_int (fun _ _ => rfl)) pa_nil)) pk_nil)))
          (pss_one (ps_if (pt_cmpR (show OpR _ _ (rEqD K) from op_eqD hr.units) (pe_ix (r := rIxL K) ix_list (pv 0) pe_int (fun _ _ => rfl)) pe_str (nomark _))
            (pss_one (ps_set (i := 2) nd rfl (Or.inl rfl) (pe_callNS G_listed (hr.mono (by decide)) rfl m_listed k_listed kb2 (fun σ => passAt tk σ) (pa_cons (pe_ix (r := rIxL K) ix_list (pv 0) pe_int (fun _ _ => rfl)) (pa_cons (pe_ix (r := rIxL K) ix_list (pv 0) pe_int (fun _ _ => rfl)) pa_nil)) (pk_cons (pe_ix (r := rIxL K) ix_list (pv 0) pe_int (fun _ _ => rfl)) pk_nil))))
            (pss_one (ps_if (pt_cmpR (show OpR _ _ (rEqD K) from op_eqD hr.units) (pe_ix (r := rIxL K) ix_list (pv 0) pe_int (fun _ _ => rfl)) pe_str (nomark _))
              (pss_one (ps_set (i := 2) nd rfl (Or.inl rfl) (pe_callNS G_listed (hr.mono (by decide)) rfl m_listed k_listed kb3 (fun σ => passAt tk σ) (pa_cons (pe_ix (r := rIxL K) ix_list (pv 0) pe_int (fun _ _ => rfl)) (pa_cons (pe_ix (r := rIxL K) ix_list (pv 0) pe_int (fun _ _ => rfl)) pa_nil)) (pk_cons (pe_ix (r := rIxL K) ix_list (pv 0) pe_int (fun _ _ => rfl)) pk_nil))))
              (pss_one (ps_set (i := 2) nd rfl (Or.inl rfl) (pe_callNS G_listed (hr.mono (by decide)) rfl m_listed k_listed kb4 (fun σ => passAt tk σ) (pa_cons (pe_ix (r := rIxL K) ix_list (pv 0) pe_int (fun _ _ => rfl)) (pa_cons (pe_ix (r := rIxL K) ix_list (pv 0) pe_int (fun _ _ => rfl)) pa_nil)) (pk_cons (pe_ix (r := rIxL K) ix_list (pv 0) pe_int (fun _ _ => rfl)) (pk_cons (pe_ix (r := rIxL K) ix_list (pv 0) pe_int (fun _ _ => rfl)) pk_nil)))))))))))) (fun a oe cls d pn hz hf => pss_one (ps_set (i := 1) nd rfl (Or.inl rfl) (pv 3))))
      (pss_cons (ps_if (pt_cmpR op_isN (pv 1) pe_non (nomark _)) (pss_one (ps_ret (pe_tup (pa_cons pe_str (pa_cons (pv 2) pa_nil))))) pss_nil)
      (pss_cons (ps_if (PW.pt (pw_or (pt_not (pt_val (pe_callB call_isV (by rfl) T.b_isinstance (by decide +kernel) (pa_cons (pv 1) (pa_cons (pe_glob (v := .ref C) rfl O.mC rfl) pa_nil))))) (pw_or1 (pt_not (pt_val (pe_callB call_isV (by rfl) T.b_isinstance (by decide +kernel) (pa_cons (pv 1) (pa_cons (pe_bltn (v := .ty "ValueError") (by rfl) T.b_ValueError (by decide +kernel) rfl) pa_nil)))))))) (pss_one (ps_ret (pe_tup (pa_cons pe_str pa_nil)))) pss_nil)
      (pss_cons (ps_if (pt_val (pe_callB call_isVT (by rfl) T.b_isinstance (by decide +kernel) (pa_cons (pv 1) (pa_cons (pe_tup (pa_cons (pe_glob (v := .ref CO) rfl O.mO rfl) (pa_cons (pe_glob (v := .ref CN) rfl O.mN rfl) pa_nil))) pa_nil)))) (pss_one (ps_ret (pe_tup (pa_cons pe_str pa_nil)))) pss_nil)
      (pss_one (ps_ret (pe_tup (pa_cons pe_str (pa_cons (pe_exf (pv 1)) pa_nil)))))))))), ?_⟩
    refine ⟨fun σ H' => (∃ t, σ = [some (.ref l), some .non, some (.ref t), none] ∧ Same H H' ∧ toldW x1 x2 x3 d3 d4 = .non ∧ H' t = some (.tup [x1, x2, bandOf x3 d3, ruleOf x4 d4])) ∨
      ∃ (z : Str) (a d : Addr) (H1 : Hp), σ = [some (.ref l), some (.ref a), some .non, none] ∧ H' = upd H1 a (exV (.ref C) (some d) a) ∧ Same H H1 ∧ H1 a = none ∧ H1 d = some (.xd [("word", .str z)]) ∧ toldW x1 x2 x3 d3 d4 = .str z, ?_, ?_⟩
    · have b4' : ∀ e : outB d4 = true, ruleOf x4 d4 = .str "rank" := fun e => if_pos e
      cases e3 : outB d3 with
      | true =>
        have q3 : PyData.eqv d3 (.str "out") = true := e3
        have b3 : bandOf x3 d3 = .non := if_pos e3
        refine ⟨_, rfl, l, _, _, _, rfl, rfl, SqL.of hl, rfl, d3, _, o3.dp, .str _, o3.shaped, out_shaped, ?_⟩
        rw [q3]
        cases e4 : outB d4 with
        | true =>
          have q4 : PyData.eqv d4 (.str "out") = true := e4
          have b4 : ruleOf x4 d4 = .str "rank" := if_pos e4
          have r4 : ruleD d4 = .str "rank" := if_pos e4
          refine ⟨_, rfl, iteT ⟨_, rfl, l, _, _, _, rfl, rfl, SqL.of hl, rfl, d4, _, o4.dp, .str _, o4.shaped, out_shaped, ?_⟩⟩
          rw [q4]
          refine ⟨_, rfl, iteT ?_⟩
          refine ⟨_, rfl, l, _, _, _, rfl, rfl, SqL.of hl, rfl, _, rfl, l, _, _, _, rfl, rfl, SqL.of hl, rfl, rfl, rfl, ?_⟩
          refine ⟨x1, x2, .non, (.str "rank"), d1, d2, .none, (.str "rank"), rfl, o1, o2, .non, (.str (by decide +kernel) (by decide +kernel)), fun ew t H1 s1 ht => ?_, fun z ew d H1 s1 hd => ?_⟩
          · exact .inl ⟨t, rfl, s1, by unfold toldW; rw [b3, r4]; exact ew, by rw [b3, b4]; exact ht⟩
          · exact ⟨true, O.ex, fun _ a na => ⟨_, rfl, .inr ⟨z, a, d, H1, rfl, rfl, s1, na, hd, by unfold toldW; rw [b3, r4]; exact ew⟩⟩, fun q => by cases q⟩
        | false =>
          have q4 : PyData.eqv d4 (.str "out") = false := e4
          have b4 : ruleOf x4 d4 = x4 := if_neg (by rw [e4]; decide)
          have r4 : ruleD d4 = d4 := if_neg (by rw [e4]; decide)
          refine ⟨_, rfl, iteT ⟨_, rfl, l, _, _, _, rfl, rfl, SqL.of hl, rfl, d4, _, o4.dp, .str _, o4.shaped, out_shaped, ?_⟩⟩
          rw [q4]
          refine ⟨_, rfl, iteF ⟨_, rfl, l, _, _, _, rfl, rfl, SqL.of hl, rfl, d3, _, o3.dp, .str _, o3.shaped, out_shaped, ?_⟩⟩
          rw [q3]
          refine ⟨_, rfl, iteT ?_⟩
          refine ⟨_, rfl, l, _, _, _, rfl, rfl, SqL.of hl, rfl, _, rfl, l, _, _, _, rfl, rfl, SqL.of hl, rfl, _, rfl, l, _, _, _, rfl, rfl, SqL.of hl, rfl, rfl, rfl, ?_⟩
          refine ⟨x1, x2, .non, x4, d1, d2, .none, d4, rfl, o1, o2, .non, o4, fun ew t H1 s1 ht => ?_, fun z ew d H1 s1 hd => ?_⟩
          · exact .inl ⟨t, rfl, s1, by unfold toldW; rw [b3, r4]; exact ew, by rw [b3, b4]; exact ht⟩
          · exact ⟨true, O.ex, fun _ a na => ⟨_, rfl, .inr ⟨z, a, d, H1, rfl, rfl, s1, na, hd, by unfold toldW; rw [b3, r4]; exact ew⟩⟩, fun q => by cases q⟩
      | false =>
        have q3 : PyData.eqv d3 (.str "out") = false := e3
        have b3 : bandOf x3 d3 = x3 := if_neg (by rw [e3]; decide)
        refine ⟨_, rfl, l, _, _, _, rfl, rfl, SqL.of hl, rfl, d3, _, o3.dp, .str _, o3.shaped, out_shaped, ?_⟩
        rw [q3]
        refine ⟨_, rfl, iteF (iteF ⟨_, rfl, l, _, _, _, rfl, rfl, SqL.of hl, rfl, d3, _, o3.dp, .str _, o3.shaped, out_shaped, ?_⟩)⟩
        rw [q3]
        refine ⟨_, rfl, iteF ⟨_, rfl, l, _, _, _, rfl, rfl, SqL.of hl, rfl, d4, _, o4.dp, .str _, o4.shaped, out_shaped, ?_⟩⟩
        cases e4 : outB d4 with
        | true =>
          have q4 : PyData.eqv d4 (.str "out") = true := e4
          have b4 : ruleOf x4 d4 = .str "rank" := if_pos e4
          have r4 : ruleD d4 = .str "rank" := if_pos e4
          rw [q4]
          refine ⟨_, rfl, iteT ?_⟩
          refine ⟨_, rfl, l, _, _, _, rfl, rfl, SqL.of hl, rfl, _, rfl, l, _, _, _, rfl, rfl, SqL.of hl, rfl, _, rfl, l, _, _, _, rfl, rfl, SqL.of hl, rfl, rfl, rfl, ?_⟩
          refine ⟨x1, x2, x3, (.str "rank"), d1, d2, d3, (.str "rank"), rfl, o1, o2, o3, (.str (by decide +kernel) (by decide +kernel)), fun ew t H1 s1 ht => ?_, fun z ew d H1 s1 hd => ?_⟩
          · exact .inl ⟨t, rfl, s1, by unfold toldW; rw [b3, r4]; exact ew, by rw [b3, b4]; exact ht⟩
          · exact ⟨true, O.ex, fun _ a na => ⟨_, rfl, .inr ⟨z, a, d, H1, rfl, rfl, s1, na, hd, by unfold toldW; rw [b3, r4]; exact ew⟩⟩, fun q => by cases q⟩
        | false =>
          have q4 : PyData.eqv d4 (.str "out") = false := e4
          have b4 : ruleOf x4 d4 = x4 := if_neg (by rw [e4]; decide)
          have r4 : ruleD d4 = d4 := if_neg (by rw [e4]; decide)
          rw [q4]
          refine ⟨_, rfl, iteF ?_⟩
          refine ⟨_, rfl, l, _, _, _, rfl, rfl, SqL.of hl, rfl, _, rfl, l, _, _, _, rfl, rfl, SqL.of hl, rfl, _, rfl, l, _, _, _, rfl, rfl, SqL.of hl, rfl, _, rfl, l, _, _, _, rfl, rfl, SqL.of hl, rfl, rfl, rfl, ?_⟩
          refine ⟨x1, x2, x3, x4, d1, d2, d3, d4, rfl, o1, o2, o3, o4, fun ew t H1 s1 ht => ?_, fun z ew d H1 s1 hd => ?_⟩
          · exact .inl ⟨t, rfl, s1, by unfold toldW; rw [b3, r4]; exact ew, by rw [b3, b4]; exact ht⟩
          · exact ⟨true, O.ex, fun _ a na => ⟨_, rfl, .inr ⟨z, a, d, H1, rfl, rfl, s1, na, hd, by unfold toldW; rw [b3, r4]; exact ew⟩⟩, fun q => by cases q⟩
    · rintro σ H' (⟨t, rfl, s1, ew, ht⟩ | ⟨z, a, d, H1, rfl, rfl, s1, na, hd, ew⟩)
      · refine ⟨_, rfl, rfl, _, rfl, iteT ?_⟩
        refine ⟨_, rfl, (by show 2 ≤ sizeLine; decide), fun u nu => k u _ (s1.trans (Same.new nu)) (.inl ⟨ew, t, upd_same, Same.new nu _ _ ht⟩)⟩
      · have s2 : Same H1 (upd H1 a (exV (.ref C) (some d) a)) := Same.new na
        have ea : (upd H1 a (exV (.ref C) (some d) a)) a = some (exV (.ref C) (some d) a) := upd_same
        have ed := s2 _ _ hd
        refine ⟨_, rfl, rfl, _, rfl, iteF ?_⟩
        refine ⟨_, rfl, a, d, C, _, _, _, true, rfl, ea, ed, O.xc, .own C, O.i1, _, rfl, ?_⟩
        refine iteF ⟨_, rfl, a, d, C, _, _, _, true, rfl, ea, ed, O.xc, .ty "ValueError", O.i2, _, rfl, ?_⟩
        refine iteF ?_
        refine ⟨_, rfl, (by show 2 ≤ sizeLine; decide), fun tp ntp => ?_⟩
        have s3 := Same.new ntp (o := .tup [.ref CO, .ref CN])
        refine ⟨a, d, C, tp, _, _, _, false, rfl, s3 _ _ ea, s3 _ _ ed, O.xc, upd_same, .cons (.own CO) (.cons (.own CN) .nil), O.i3, _, rfl, iteF ?_⟩
        refine ⟨_, rfl, a, d, C, _, _, rfl, s3 _ _ ea, s3 _ _ ed, O.xf, O.no, rfl, (by show 2 ≤ sizeLine; decide), fun u nu => ?_⟩
        exact k u _ ((s1.trans s2).trans (s3.trans (Same.new nu))) (.inr ⟨z, ew, upd_same⟩)

/-! ### what is due -/
def spLWhole : Sp := fun vs H Q _ => ∃ (x : V) (d : PyData) (lo hi : Int), vs = [x, .int lo, .int hi] ∧ Od H x d ∧ Q (.bl (rangeV lo hi x)) H
abbrev s_law_whole : Stmt := topS 25
theorem sc_law_whole : FnScope ["thing", "least", "most"] ["thing", "least", "most"] (defScope s_law_whole) := ⟨rfl, rfl, rfl, by decide +kernel, rfl, by decide +kernel, by decide +kernel⟩
theorem ok_lwhole {f : Addr} {fd : FuncData} (F : Fun K "_law_whole" "_law_whole" s_law_whole f fd) (T : Txt mg) : FnOk P w K mg base CX0 1 f fd ["thing", "least", "most"] spLWhole := by
  refine F.ok sc_law_whole (fun vs H Q E h => ?_) (fun cdv A outer s H vs Q E hr h => ?_)
  · obtain ⟨x, _, lo, hi, rfl, _⟩ := h
    rfl
  · obtain ⟨x, d, lo, hi, rfl, o, k⟩ := h
    refine ⟨_, (pss_one (ps_ret (pe_and (pe_callB call_isi (by rfl) T.b_isinstance (by decide +kernel) (pa_cons (pv 0) (pa_cons (pe_bltn (v := .ty "int") (by rfl) T.b_int (by decide +kernel) rfl) pa_nil))) (pe_and (pe_not (pe_callB call_isi (by rfl) T.b_isinstance (by decide +kernel) (pa_cons (pv 0) (pa_cons (pe_bltn (v := .ty "bool") (by rfl) T.b_bool (by decide +kernel) rfl) pa_nil)))) (pe_one (pe_chain op_le op_le (pv 1) (pv 0) (pv 2))))))), ?_⟩
    cases o with
    | non => exact ⟨_, rfl, _, _, _, _, false, rfl, .ty "int", (.base .non), kit_ty (by decide +kernel), _, rfl, iteF k⟩
    | str h h2 => exact ⟨_, rfl, _, _, _, _, false, rfl, .ty "int", (.base (.str _)), kit_ty (by decide +kernel), _, rfl, iteF k⟩
    | l0 e => exact ⟨_, rfl, _, _, _, _, false, rfl, .ty "int", (.base (.lst e)), kit_ty (by decide +kernel), _, rfl, iteF k⟩
    | t0 e => exact ⟨_, rfl, _, _, _, _, false, rfl, .ty "int", (.base (.tup e)), kit_ty (by decide +kernel), _, rfl, iteF k⟩
    | l1 e h h2 => exact ⟨_, rfl, _, _, _, _, false, rfl, .ty "int", (.base (.lst e)), kit_ty (by decide +kernel), _, rfl, iteF k⟩
    | t1 e h h2 => exact ⟨_, rfl, _, _, _, _, false, rfl, .ty "int", (.base (.tup e)), kit_ty (by decide +kernel), _, rfl, iteF k⟩
    | l2 e e2 h h2 => exact ⟨_, rfl, _, _, _, _, false, rfl, .ty "int", (.base (.lst e)), kit_ty (by decide +kernel), _, rfl, iteF k⟩
    | bl b => exact ⟨_, rfl, _, _, _, _, true, rfl, .ty "int", .base (.bl _), kit_ty (by decide +kernel), _, rfl, iteT ⟨_, rfl, _, _, _, _, true, rfl, .ty "bool", .base (.bl _), kit_ty (by decide +kernel), _, rfl, _, rfl, iteF k⟩⟩
    | @int i hb =>
      refine ⟨_, rfl, _, _, _, _, true, rfl, .ty "int", .base (.int _), kit_ty (by decide +kernel), _, rfl, iteT ⟨_, rfl, _, _, _, _, false, rfl, .ty "bool", .base (.int _), kit_ty (by decide +kernel), _, rfl, _, rfl, iteT ?_⟩⟩
      refine ⟨_, rfl, _, rfl, _, _, rfl, rfl, _, rfl, ite2 (fun c => ?_) (fun c => ?_)⟩
      · refine ⟨_, rfl, _, _, rfl, rfl, ?_⟩
        have e : rangeV lo hi (.int i) = decide (i ≤ hi) := by
          show (decide (lo ≤ i) && decide (i ≤ hi)) = _
          rw [c, Bool.true_and]
        rw [e] at k
        exact k
      · have e : rangeV lo hi (.int i) = false := by
          show (decide (lo ≤ i) && decide (i ≤ hi)) = _
          rw [Bool.eq_false_iff.mpr c, Bool.false_and]
        rw [e] at k
        exact k
def sgn (c : Nat) : V := .str ⟨#[c]⟩
def oddC (c : Nat) : Bool := !decide (c ∈ lettersS.cps.toList)
theorem oddC_eq (c : Nat) : oddC c = !(decide (97 ≤ c) && decide (c ≤ 122)) := by
  unfold oddC
  rw [letters_cps]
  congr 1
  rw [Bool.eq_iff_iff, Bool.and_eq_true, decide_eq_true_eq, decide_eq_true_eq, decide_eq_true_eq, List.mem_range'_1]
  omega
theorem sgn_dp {K : PySem.W.Frag} {H : Hp} : ∀ cs : List Nat, DpAll K H (cs.map sgn) (cs.map fun c => PyData.str ⟨#[c]⟩)
  | [] => .nil
  | c :: cs => .cons (.str _) (sgn_dp cs)
theorem sgn_lay : ∀ {cs : List Nat}, (∀ c ∈ cs, c < 0x110000) → PyData.canLayAll0 (cs.map fun c => PyData.str ⟨#[c]⟩) = true
  | [], _ => by simp [PyData.canLayAll0]
  | c :: cs, h => by
    have h1 : PyData.strOk (⟨#[c]⟩ : Str) = true := by
      have := h c (by simp)
      simp [PyData.strOk, this]
    simp [PyData.canLayAll0, PyData.canLay0, h1, sgn_lay fun d hd => h d (List.mem_cons_of_mem _ hd)]
theorem sgn_depth : ∀ cs : List Nat, PyData.depthAll (cs.map fun c => PyData.str ⟨#[c]⟩) = 0
  | [] => by simp [PyData.depthAll]
  | c :: cs => by simp [PyData.depthAll, PyData.depth, sgn_depth cs]
theorem sgn_shaped {cs : List Nat} (h : ∀ c ∈ cs, c < 0x110000) : SeqAt.shaped (.list (cs.map fun c => PyData.str ⟨#[c]⟩)) = true := by
  show (PyData.canLay0 (.list _) && decide (PyData.depth (.list _) ≤ 64)) = true
  rw [Bool.and_eq_true]
  exact ⟨by simp only [PyData.canLay0]; exact sgn_lay h, decide_eq_true (by simp only [PyData.depth]; rw [sgn_depth]; omega)⟩
theorem list_nil_eqv (ds : List PyData) : PyData.eqv (.list ds) (.list []) = ds.isEmpty := by
  cases ds <;> simp [PyData.eqv, PyData.eqvAll]
theorem nil_shaped : SeqAt.shaped (.list []) = true := by decide +kernel
def spLName : Sp := fun vs H Q _ => ∃ (x : V) (d : PyData), vs = [x] ∧ Od H x d ∧ ∀ H', Same H H' → Q (.bl (nameV x)) H'
abbrev s_law_is_name : Stmt := topS 26
theorem sc_law_is_name : FnScope ["thing", "sign"] ["thing"] (defScope s_law_is_name) := ⟨rfl, rfl, rfl, by decide +kernel, rfl, by decide +kernel, by decide +kernel⟩
theorem ok_lname {f : Addr} {fd : FuncData} (F : Fun K "_law_is_name" "_law_is_name" s_law_is_name f fd) (T : Txt mg) : FnOk P w K mg base CX0 1 f fd ["thing"] spLName := by
  refine F.ok sc_law_is_name (fun vs H Q E h => ?_) (fun cdv A outer s H vs Q E hr h => ?_)
  · obtain ⟨x, _, rfl, _⟩ := h
    rfl
  · obtain ⟨x, d, rfl, o, k⟩ := h
    refine ⟨_, (pss_cons (ps_if (PW.pt (pw_or (pt_not (pt_val (pe_callB call_isi (by rfl) T.b_isinstance (by decide +kernel) (pa_cons (pv 0) (pa_cons (pe_bltn (v := .ty "str") (by rfl) T.b_str (by decide +kernel) rfl) pa_nil))))) (pw_or1 (pt_not (pt_chain op_le op_le pe_int (pe_callB call_len_str (by rfl) T.b_len PySem.boot_len (pa_cons (pv 0) pa_nil)) pe_int))))) (pss_one (ps_ret pe_bl)) pss_nil)
          (pss_one (ps_ret (pe_cmpR (op_eqD hr.units) (pe_lc (own := [("sign", 1)]) (g := gName 1) rfl sc_law_is_name.nd (pi_str (pv 0)) (blkOk_by (N := ["thing", "sign"]) (sc := defScope s_law_is_name) (by decide +kernel)) (fun _ _ _ _ _ => (pg_name (i := 1) sc_law_is_name.nd rfl (Or.inl rfl))) (fun _ _ _ _ _ => (pts_one (pt_cmpR op_notIn_sign (pv 1) pe_str (by rfl)))) (fun _ _ _ _ _ => (pv 1))) (pe_lst pa_nil) (nomark _))))), ?_⟩
    cases o with
    | non => exact ⟨_, rfl, _, _, _, _, false, rfl, .ty "str", (.base .non), kit_ty (by decide +kernel), _, rfl, iteT (iteT (k H (Same.refl H)))⟩
    | bl b => exact ⟨_, rfl, _, _, _, _, false, rfl, .ty "str", (.base (.bl _)), kit_ty (by decide +kernel), _, rfl, iteT (iteT (k H (Same.refl H)))⟩
    | int h => exact ⟨_, rfl, _, _, _, _, false, rfl, .ty "str", (.base (.int _)), kit_ty (by decide +kernel), _, rfl, iteT (iteT (k H (Same.refl H)))⟩
    | l0 e => exact ⟨_, rfl, _, _, _, _, false, rfl, .ty "str", (.base (.lst e)), kit_ty (by decide +kernel), _, rfl, iteT (iteT (k H (Same.refl H)))⟩
    | t0 e => exact ⟨_, rfl, _, _, _, _, false, rfl, .ty "str", (.base (.tup e)), kit_ty (by decide +kernel), _, rfl, iteT (iteT (k H (Same.refl H)))⟩
    | l1 e h h2 => exact ⟨_, rfl, _, _, _, _, false, rfl, .ty "str", (.base (.lst e)), kit_ty (by decide +kernel), _, rfl, iteT (iteT (k H (Same.refl H)))⟩
    | t1 e h h2 => exact ⟨_, rfl, _, _, _, _, false, rfl, .ty "str", (.base (.tup e)), kit_ty (by decide +kernel), _, rfl, iteT (iteT (k H (Same.refl H)))⟩
    | l2 e e2 h h2 => exact ⟨_, rfl, _, _, _, _, false, rfl, .ty "str", (.base (.lst e)), kit_ty (by decide +kernel), _, rfl, iteT (iteT (k H (Same.refl H)))⟩
    | @str t h h2 =>
      have ht : t.length ≤ sizeLine := Nat.le_trans h (by decide)
      refine ⟨_, rfl, _, _, _, _, true, rfl, .ty "str", .base (.str _), kit_ty (by decide +kernel), _, rfl, iteF ?_⟩
      refine ⟨_, rfl, _, rfl, ht, _, _, rfl, rfl, _, rfl, ?_⟩
      have nm : ∀ b : Bool, (decide ((1 : Int) ≤ t.length) && decide ((t.length : Int) ≤ 8)) = b → nameV (.str t) = (b && t.cps.toList.all fun c => decide (97 ≤ c) && decide (c ≤ 122)) := fun b e => by
        show nameB t = _
        unfold nameB
        rw [e]
      refine ite2 (fun c1 => ?_) (fun c1 => ?_)
      · refine ⟨_, _, rfl, rfl, _, rfl, ?_⟩
        refine ite2 (fun c2 => ?_) (fun c2 => ?_)
        · have c3 : decide ((t.length : Int) ≤ 8) = false := by
            have c4 : (!decide ((t.length : Int) ≤ 8)) = true := c2
            rw [Bool.not_eq_true'] at c4
            exact c4
          have k1 := k H (Same.refl H)
          rw [nm false (by rw [c3, Bool.and_false]), Bool.false_and] at k1
          exact k1
        · have c3 : decide ((t.length : Int) ≤ 8) = true := by
            cases h : decide ((t.length : Int) ≤ 8) with
            | true => rfl
            | false => exact absurd (show (!decide ((t.length : Int) ≤ 8)) = true by rw [h]; rfl) c2
          have e := nm true (by rw [show decide ((1 : Int) ≤ t.length) = true from c1, c3]; rfl)
          rw [Bool.true_and] at e
          have okc : ∀ c ∈ t.cps.toList, c < 0x110000 := fun c hc => by
            have z : t.cps.all (· < 0x110000) = true := h2
            rw [← Array.all_toList, List.all_eq_true] at z
            exact of_decide_eq_true (z c hc)
          refine ⟨_, rfl, t, rfl, fun D nD => ?_⟩
          refine lc_it walk_str (fun i h => h = upd H D (.lst (((t.cps.toList.take i).filter oddC).map sgn))) rfl (fun _ _ _ _ => trivial) ?_ ?_
          · rintro i x h h' hi rfl ⟨rfl, c, hc, rfl⟩
            have q : t.cps.toList[i]? = some c := by rw [Array.getElem?_toList]; exact hc
            refine ⟨rfl, _, rfl, c, lettersS, rfl, rfl, _, rfl, ite2 (fun d => ?_) (fun d => ?_)⟩
            · refine ⟨_, rfl, _, upd_same, ?_, ?_⟩
              · rw [List.length_map]
                exact Nat.lt_of_le_of_lt (Nat.le_trans (List.length_filter_le _ _) (List.length_take_le _ _)) (Nat.lt_of_lt_of_le (show i < 100 by have hi2 : i < t.length := hi; omega) (by decide))
              · rw [upd_upd, List.take_add_one, q, List.filter_append, List.map_append]
                show upd H D (.lst (_ ++ [sgn c])) = upd H D (.lst (_ ++ (List.filter oddC [c]).map sgn))
                rw [List.filter_cons_of_pos (show oddC c = true from d), List.filter_nil]
                rfl
            · show upd H D _ = _
              rw [List.take_add_one, q, List.filter_append, List.map_append]
              show _ = upd H D (.lst (_ ++ (List.filter oddC [c]).map sgn))
              rw [List.filter_cons_of_neg (show ¬ oddC c = true from d), List.filter_nil, List.map_nil, List.append_nil]
          · rintro h rfl
            refine ⟨Nat.zero_le _, fun D2 nD2 => ?_⟩
            have ne : D ≠ D2 := ne_of_none upd_same nD2
            rw [show t.cps.toList.take t.cps.size = t.cps.toList from List.take_of_length_le (by rw [Array.length_toList]; exact Nat.le_refl _)] at *
            refine ⟨_, .list [], .lst (SqL.of (show (upd (upd H D (.lst ((t.cps.toList.filter oddC).map sgn))) D2 (.lst [])) D = _ by rw [upd_ne ne]; exact upd_same)) (sgn_dp _), .lst (SqL.of upd_same) .nil, sgn_shaped (fun c hc => okc c (List.mem_filter.mp hc).1), nil_shaped, ?_⟩
            rw [list_nil_eqv]
            have e6 : (((t.cps.toList.filter oddC).map fun c => PyData.str ⟨#[c]⟩)).isEmpty = nameV (.str t) := by
              rw [e, Bool.eq_iff_iff, List.isEmpty_iff, List.map_eq_nil_iff, List.filter_eq_nil_iff, List.all_eq_true]
              refine ⟨fun z c hc => ?_, fun z c hc => ?_⟩
              · have y := z c hc
                rw [oddC_eq, Bool.not_eq_true, Bool.not_eq_false'] at y
                exact y
              · rw [oddC_eq, z c hc]
                decide
            rw [e6]
            exact k _ ((Same.new nD).trans (Same.new nD2))
      · have c3 : decide ((1 : Int) ≤ t.length) = false := by
          cases h : decide ((1 : Int) ≤ t.length) with
          | true => exact absurd h c1
          | false => rfl
        have k1 := k H (Same.refl H)
        rw [nm false (by rw [c3, Bool.false_and]), Bool.false_and] at k1
        exact ⟨_, rfl, iteT k1⟩
def rNotInT (K : PySem.W.Frag) : R2 := fun x y H Q => ∃ d ds, Dp K H x d ∧ Dp K H y (.tuple ds) ∧ SeqAt.shaped d = true ∧ SeqAt.shaped (.tuple ds) = true ∧ Q (.bl (!ds.any fun z => PyData.eqv z d)) H
theorem op_notInT {X : Cx} (hu : X.A.units + 65 < cLine) : OpR X (PySem.compareOp .NotIn) (rNotInT X.K) := by
  intro pins s σ H x y v u Q I rx ry h
  obtain ⟨d, ds, hd, he, sd, se, q⟩ := h
  obtain ⟨as, r1⟩ := Dp.reads I d x v hd rx
  obtain ⟨bs, r2⟩ := Dp.reads I (.tuple ds) y u he ry
  exact SeqAt.notIn_tuple_reads r2 r1 (SeqAt.canLay_of_shaped se) (SeqAt.canLay_of_shaped sd) (PyProof.Rows.room_in_shaped sd hu) ⟨.bl _, H, I, rfl, q⟩
theorem words_shaped : SeqAt.shaped (.tuple [.str "rank", .str "share", .str "out"]) = true := by decide +kernel
def isStr : V → Bool
  | .str _ => true
  | _ => false
theorem str_eqv (a b : Str) : PyData.eqv (.str a) (.str b) = (a == b) := by simp [PyData.eqv]
/-- the words, asked so and so -/
theorem rule_same {H : Hp} {x : V} {d : PyData} (o : Od H x d) : ruleB (ruleD d) = (isStr x && [PyData.str "rank", PyData.str "share", PyData.str "out"].any fun z => PyData.eqv z d) := by
  cases o with
  | @str s h h2 =>
    unfold ruleD outB ruleB
    rw [str_eqv]
    simp only [isStr, Bool.true_and, List.any_cons, List.any_nil, Bool.or_false, str_eqv]
    by_cases e : s = "out"
    · subst e
      decide +kernel
    · rw [if_neg (by simpa using e)]
      have e2 : (("out" : Str) == s) = false := by simpa using fun z => e z.symm
      simp only [List.any_cons, List.any_nil, Bool.or_false, str_eqv, e2]
  | non => rfl
  | bl b => rfl
  | int h => rfl
  | l0 e => rfl
  | t0 e => rfl
  | l1 e h h2 => rfl
  | t1 e h h2 => rfl
  | l2 e e2 h h2 => rfl
theorem out_iff {H : Hp} {x : V} {d : PyData} (o : Od H x d) : outB d = decide (x = .str "out") := by
  cases o with
  | @str s h h2 =>
    unfold outB
    rw [str_eqv, Bool.eq_iff_iff, decide_eq_true_eq, beq_iff_eq]
    exact ⟨fun e => by rw [e], fun e => by injection e⟩
  | non => rfl
  | bl b => rfl
  | int h => rfl
  | l0 e => rfl
  | t0 e => rfl
  | l1 e h h2 => rfl
  | t1 e h h2 => rfl
  | l2 e e2 h h2 => rfl
theorem Od.tyS {K : PySem.W.Frag} {H : Hp} {x : V} {d : PyData} (o : Od H x d) : ∃ ty, TyX K H x (.type ty) ∧ kitB ty "str" = some (isStr x) := by
  cases o with
  | non => exact ⟨_, .base .non, show kitB "NoneType" "str" = some false by decide +kernel⟩
  | bl b => exact ⟨_, .base (.bl _), show kitB "bool" "str" = some false by decide +kernel⟩
  | int h => exact ⟨_, .base (.int _), show kitB "int" "str" = some false by decide +kernel⟩
  | str h h2 => exact ⟨_, .base (.str _), show kitB "str" "str" = some true by decide +kernel⟩
  | l0 e => exact ⟨_, .base (.lst e), show kitB "list" "str" = some false by decide +kernel⟩
  | t0 e => exact ⟨_, .base (.tup e), show kitB "tuple" "str" = some false by decide +kernel⟩
  | l1 e h h2 => exact ⟨_, .base (.lst e), show kitB "list" "str" = some false by decide +kernel⟩
  | t1 e h h2 => exact ⟨_, .base (.tup e), show kitB "tuple" "str" = some false by decide +kernel⟩
  | l2 e e2 h h2 => exact ⟨_, .base (.lst e), show kitB "list" "str" = some false by decide +kernel⟩
theorem iteN {b : Bool} {A B : Prop} (h : b = true) (k : B) : if (!b) = true then A else B := by rw [h]; exact k
theorem iteY {b : Bool} {A B : Prop} (h : b = false) (k : A) : if (!b) = true then A else B := by rw [h]; exact k
abbrev s_law_due : Stmt := topS 27
theorem sc_law_due : FnScope ["parts", "word", "begin", "width", "way"] ["parts"] (defScope s_law_due) := ⟨rfl, rfl, rfl, by decide +kernel, rfl, by decide +kernel, by decide +kernel⟩
theorem ok_due {f : Addr} {fd : FuncData} (F : Fun K "_law_due" "_law_due" s_law_due f fd) (T : Txt mg) (c_name : Cal P w K mg base 1 "_law_is_name" ["thing"] spLName) (c_whole : Cal P w K mg base 1 "_law_whole" ["thing", "least", "most"] spLWhole) : FnOk P w K mg base CX0 2 f fd ["parts"] spTold := by
  refine F.ok sc_law_due (fun vs H Q E h => ?_) (fun cdv A outer s H vs Q E hr h => ?_)
  · obtain ⟨l, _, _, _, _, _, _, _, _, rfl, _⟩ := h
    rfl
  · obtain ⟨l, x1, x2, x3, x4, d1, d2, d3, d4, rfl, hl, o1, o2, o3, o4, k⟩ := h
    obtain ⟨f_is_name, fd_is_name, G_is_name, m_is_name, k_is_name, b_is_name⟩ := c_name
    obtain ⟨f_whole, fd_whole, G_whole, m_whole, k_whole, b_whole⟩ := c_whole
    have hu65 : (A.deeper (PyProof.Rows.envOfC "_law_due" (defScope s_law_due) s.heap.objs.size f cdv)).units + 65 < cLine := by
      have := hr.un
      omega
    refine ⟨_, (pss_cons (ps_asg (pv 0) (pg_lst rfl (pgs_cons (pg_name (i := 1) sc_law_due.nd rfl (Or.inl rfl)) (pgs_cons (pg_name (i := 2) sc_law_due.nd rfl (Or.inl rfl)) (pgs_cons (pg_name (i := 3) sc_law_due.nd rfl (Or.inl rfl)) (pgs_cons (pg_name (i := 4) sc_law_due.nd rfl (Or.inl rfl)) pgs_nil))))))
          (pss_cons (ps_if (pt_not (pt_val (pe_call G_is_name (hr.mono (by decide)) rfl m_is_name k_is_name b_is_name .nil pass0 (pa_cons (pv 1) pa_nil)))) (pss_one (ps_ret (pe_tup (pa_cons pe_str (pa_cons pe_str pa_nil))))) pss_nil)
          (pss_cons (ps_if (pt_not (pt_val (pe_call G_whole (hr.mono (by decide)) rfl m_whole k_whole b_whole .nil pass0 (pa_cons (pv 2) (pa_cons pe_int (pa_cons (pe_op op_pow pe_int pe_int) pa_nil)))))) (pss_one (ps_ret (pe_tup (pa_cons pe_str (pa_cons pe_str pa_nil))))) pss_nil)
          (C8.pss_cut (ps_if (PW.pt (pw_and (pt_cmpR op_notN (pv 3) pe_non (nomark _)) (pw_and (pt_cmpR (op_neD hr.units) (pv 3) pe_str (nomark _)) (pw_and1 (pt_not (pt_val (pe_call G_whole (hr.mono (by decide)) rfl m_whole k_whole b_whole .nil pass0 (pa_cons (pv 3) (pa_cons pe_int (pa_cons (pe_op op_pow pe_int pe_int) pa_nil)))))))))) (pss_one (ps_ret (pe_tup (pa_cons pe_str (pa_cons pe_str pa_nil))))) pss_nil)
          (pss_cons (ps_if (PW.pt (pw_or (pt_not (pt_val (pe_callB call_isi (by rfl) T.b_isinstance (by decide +kernel) (pa_cons (pv 4) (pa_cons (pe_bltn (v := .ty "str") (by rfl) T.b_str (by decide +kernel) rfl) pa_nil))))) (pw_or1 (pt_cmpR (op_notInT hu65) (pv 4) (pe_tup (pa_cons pe_str (pa_cons pe_str (pa_cons pe_str pa_nil)))) (by rfl))))) (pss_one (ps_ret (pe_tup (pa_cons pe_str (pa_cons pe_str pa_nil))))) pss_nil)
          (pss_one (ps_ret (pe_tup (pa_cons pe_str (pa_cons (pe_tup (pa_cons (pv 1) (pa_cons (pv 2) (pa_cons (pe_ifExp (pt_cmpR (op_eqD hr.units) (pv 3) pe_str (nomark _)) pe_non (pv 3)) (pa_cons (pe_ifExp (pt_cmpR (op_eqD hr.units) (pv 4) pe_str (nomark _)) pe_str (pv 4)) pa_nil))))) pa_nil)))))))))), ?_⟩
    refine ⟨_, rfl, l, _, rfl, SqL.of hl, rfl, _, _, rfl, _, _, rfl, _, _, rfl, _, _, rfl, rfl, ?_⟩
    refine ⟨_, rfl, x1, d1, rfl, o1, fun H1 s1 => ⟨_, rfl, ?_⟩⟩
    have p2 := o2.same s1
    have p3 := o3.same s1
    have p4 := o4.same s1
    have e10 : (10 : Int) ^ (6 : Int).toNat = 1000000 := by decide
    cases h1 : nameV x1 with
    | false =>
      refine iteT ⟨(by show 2 ≤ sizeLine; decide), fun u nu => k u _ (s1.trans (Same.new nu)) (.inr ⟨"name", ?_, upd_same⟩)⟩
      unfold toldW wrongOf
      rw [h1]
      rfl
    | true =>
      refine iteF ⟨_, rfl, _, _, rfl, rfl, ⟨by decide, by decide, by decide⟩, x2, d2, 1, _, rfl, p2, _, rfl, ?_⟩
      rw [e10]
      cases h2 : rangeV 1 1000000 x2 with
      | false =>
        refine iteT ⟨(by show 2 ≤ sizeLine; decide), fun u nu => k u _ (s1.trans (Same.new nu)) (.inr ⟨"start", ?_, upd_same⟩)⟩
        unfold toldW wrongOf
        rw [h1, h2]
        rfl
      | true =>
        refine iteF ?_
        refine ⟨fun σ h => σ = [some (.ref l), some x1, some x2, some x3, some x4] ∧ Same H h ∧ (isNon (bandOf x3 d3) || rangeV 0 1000000 (bandOf x3 d3)) = true, ?_, ?_⟩
        · by_cases n3 : x3 = .non
          · have b3 : (isNon (bandOf x3 d3) || rangeV 0 1000000 (bandOf x3 d3)) = true := by
              unfold bandOf
              split
              · rfl
              · rw [n3]
                rfl
            refine ⟨_, rfl, rfl, _, rfl, iteN (decide_eq_true n3) (iteF ⟨rfl, s1, b3⟩)⟩
          · refine ⟨_, rfl, rfl, _, rfl, iteY (decide_eq_false n3) ?_⟩
            refine ⟨_, rfl, d3, _, p3.dp, .str _, p3.shaped, out_shaped, ?_⟩
            cases e3 : outB d3 with
            | true =>
              have q3 : PyData.eqv d3 (.str "out") = true := e3
              rw [q3]
              have b3 : (isNon (bandOf x3 d3) || rangeV 0 1000000 (bandOf x3 d3)) = true := by
                unfold bandOf
                rw [if_pos e3]
                rfl
              exact ⟨_, rfl, iteF (iteF ⟨rfl, s1, b3⟩)⟩
            | false =>
              have q3 : PyData.eqv d3 (.str "out") = false := e3
              rw [q3]
              have bo : bandOf x3 d3 = x3 := if_neg (by rw [e3]; decide)
              have nn : isNon x3 = false := by
                cases x3 with
                | non => exact absurd rfl n3
                | _ => rfl
              refine ⟨_, rfl, iteT ⟨_, rfl, _, _, rfl, rfl, ⟨by decide, by decide, by decide⟩, x3, d3, 0, _, rfl, p3, _, rfl, ?_⟩⟩
              rw [e10]
              cases h3 : rangeV 0 1000000 x3 with
              | true => exact iteF ⟨rfl, s1, by rw [bo, h3, Bool.or_true]⟩
              | false =>
                refine iteT ⟨(by show 2 ≤ sizeLine; decide), fun u nu => k u _ (s1.trans (Same.new nu)) (.inr ⟨"band", ?_, upd_same⟩)⟩
                unfold toldW wrongOf
                rw [h1, h2, bo, nn, h3]
                rfl
        · rintro σ H3 ⟨rfl, s3, b3⟩
          have rs := rule_same o4
          obtain ⟨ty, ht, kt⟩ := (o4.same s3).tyS (K := K)
          refine ⟨_, rfl, _, _, _, _, isStr x4, rfl, .ty "str", ht, kit_ty kt, _, rfl, ?_⟩
          cases i4 : isStr x4 with
          | false =>
            rw [i4, Bool.false_and] at rs
            refine iteT (iteT ⟨(by show 2 ≤ sizeLine; decide), fun u nu => k u _ (s3.trans (Same.new nu)) (.inr ⟨"rule", ?_, upd_same⟩)⟩)
            unfold toldW wrongOf
            rw [h1, h2, b3, rs]
            rfl
          | true =>
            rw [i4, Bool.true_and] at rs
            refine iteF ⟨_, rfl, (by show 3 ≤ sizeLine; decide), fun tp ntp => ?_⟩
            have s4 : Same H (upd H3 tp (.tup [.str "rank", .str "share", .str "out"])) := s3.trans (Same.new ntp)
            refine ⟨d4, [.str "rank", .str "share", .str "out"], (o4.same s4).dp, .tup (SqT.of upd_same) (.cons (.str _) (.cons (.str _) (.cons (.str _) .nil))), o4.shaped, words_shaped, ?_⟩
            rw [← rs]
            cases r4 : ruleB (ruleD d4) with
            | false =>
              refine ⟨_, rfl, iteT ⟨(by show 2 ≤ sizeLine; decide), fun u nu => k u _ (s4.trans (Same.new nu)) (.inr ⟨"rule", ?_, upd_same⟩)⟩⟩
              unfold toldW wrongOf
              rw [h1, h2, b3, r4]
              rfl
            | true =>
              have good : toldW x1 x2 x3 d3 d4 = .non := by
                unfold toldW wrongOf
                rw [h1, h2, b3, r4]
                rfl
              refine ⟨_, rfl, iteF ?_⟩
              clear b3
              refine ⟨_, rfl, _, rfl, _, rfl, d3, _, (o3.same s4).dp, .str _, o3.shaped, out_shaped, ?_⟩
              cases e3 : outB d3 with
              | true =>
                have q3 : PyData.eqv d3 (.str "out") = true := e3
                have b3 : bandOf x3 d3 = .non := if_pos e3
                rw [q3]
                refine ⟨_, rfl, iteT ?_⟩
                refine ⟨_, rfl, d4, _, (o4.same s4).dp, .str _, o4.shaped, out_shaped, ?_⟩
                cases e4 : outB d4 with
                | true =>
                  have q4 : PyData.eqv d4 (.str "out") = true := e4
                  have b4 : ruleOf x4 d4 = (.str "rank") := if_pos e4
                  rw [q4]
                  refine ⟨_, rfl, iteT ?_⟩
                  refine ⟨(by show 4 ≤ sizeLine; decide), fun u nu => ⟨(by show 2 ≤ sizeLine; decide), fun t nt => ?_⟩⟩
                  exact k t _ (s4.trans ((Same.new nu).trans (Same.new nt))) (.inl ⟨good, u, upd_same, by rw [b3, b4]; exact Same.new nt _ _ upd_same⟩)
                | false =>
                  have q4 : PyData.eqv d4 (.str "out") = false := e4
                  have b4 : ruleOf x4 d4 = x4 := if_neg (by rw [e4]; decide)
                  rw [q4]
                  refine ⟨_, rfl, iteF ?_⟩
                  refine ⟨_, rfl, (by show 4 ≤ sizeLine; decide), fun u nu => ⟨(by show 2 ≤ sizeLine; decide), fun t nt => ?_⟩⟩
                  exact k t _ (s4.trans ((Same.new nu).trans (Same.new nt))) (.inl ⟨good, u, upd_same, by rw [b3, b4]; exact Same.new nt _ _ upd_same⟩)
              | false =>
                have q3 : PyData.eqv d3 (.str "out") = false := e3
                have b3 : bandOf x3 d3 = x3 := if_neg (by rw [e3]; decide)
                rw [q3]
                refine ⟨_, rfl, iteF ?_⟩
                refine ⟨_, rfl, _, rfl, d4, _, (o4.same s4).dp, .str _, o4.shaped, out_shaped, ?_⟩
                cases e4 : outB d4 with
                | true =>
                  have q4 : PyData.eqv d4 (.str "out") = true := e4
                  have b4 : ruleOf x4 d4 = (.str "rank") := if_pos e4
                  rw [q4]
                  refine ⟨_, rfl, iteT ?_⟩
                  refine ⟨(by show 4 ≤ sizeLine; decide), fun u nu => ⟨(by show 2 ≤ sizeLine; decide), fun t nt => ?_⟩⟩
                  exact k t _ (s4.trans ((Same.new nu).trans (Same.new nt))) (.inl ⟨good, u, upd_same, by rw [b3, b4]; exact Same.new nt _ _ upd_same⟩)
                | false =>
                  have q4 : PyData.eqv d4 (.str "out") = false := e4
                  have b4 : ruleOf x4 d4 = x4 := if_neg (by rw [e4]; decide)
                  rw [q4]
                  refine ⟨_, rfl, iteF ?_⟩
                  refine ⟨_, rfl, (by show 4 ≤ sizeLine; decide), fun u nu => ⟨(by show 2 ≤ sizeLine; decide), fun t nt => ?_⟩⟩
                  exact k t _ (s4.trans ((Same.new nu).trans (Same.new nt))) (.inl ⟨good, u, upd_same, by rw [b3, b4]; exact Same.new nt _ _ upd_same⟩)

/-! ### _law_same -/
inductive Scal : V → Prop where
  | non : Scal .non
  | int (i : Int) : Scal (.int i)
  | str {s : Str} (h : PyData.strOk s = true) : Scal (.str s)
def datS : V → PyData
  | .int i => .int i
  | .str s => .str s
  | _ => .none
theorem Scal.dp {K : PySem.W.Frag} {H : Hp} {x : V} (h : Scal x) : Dp K H x (datS x) := by
  cases h with
  | non => exact .non
  | int i => exact .int i
  | str h => exact .str _
theorem Scal.lay {x : V} (h : Scal x) : (datS x).canLay0 = true := by cases h <;> simp_all [datS, PyData.canLay0]
theorem Scal.depth {x : V} (h : Scal x) : (datS x).depth = 0 := by cases h <;> simp [datS, PyData.depth]
theorem Scal.shaped {x : V} (h : Scal x) : SeqAt.shaped (datS x) = true := by
  show ((datS x).canLay0 && decide ((datS x).depth ≤ 64)) = true
  rw [h.lay, h.depth]
  rfl
theorem kitLT {K : PySem.W.Frag} {ty : String} {a b : Bool} (h1 : kitB ty "list" = some a) (h2 : kitB ty "tuple" = some b) : PySem.W.kitAny K (.type ty) [.type "list", .type "tuple"] = some (a || b) := by
  refine kitAny_cons (kit_ty h1) (fun e => ?_) (fun e => by rw [e]; rfl)
  rw [e, Bool.false_or]
  exact kitAny_cons (kit_ty h2) (fun e => by rw [e]; exact kitAny_nil) (fun e => e)
theorem Scal.ty {K : PySem.W.Frag} {H : Hp} {x : V} (h : Scal x) : ∃ ty, TyX K H x (.type ty) ∧ kitB ty "list" = some false ∧ kitB ty "tuple" = some false ∧ kitB ty "bool" = some false := by
  cases h with
  | non => exact ⟨_, .base .non, by decide +kernel, by decide +kernel, by decide +kernel⟩
  | int i => exact ⟨_, .base (.int _), by decide +kernel, by decide +kernel, by decide +kernel⟩
  | str h => exact ⟨_, .base (.str _), by decide +kernel, by decide +kernel, by decide +kernel⟩
theorem walk_zipT {K : PySem.W.Frag} {a b : Addr} {xs ys : List V} {n : Nat} (hn : n = min xs.length ys.length) : Walk (RZ.ItzT K a b) n (fun H => SqT K H a xs ∧ SqT K H b ys) (YPair (fun i => xs[i]?) (fun i => ys[i]?)) := by
  subst hn
  refine ⟨fun i _ hi q => ?_, fun _ q => ⟨xs, ys, q.1, q.2, by omega⟩, fun i H v H' _ q y => ?_⟩
  · have h1 : i < xs.length := by omega
    have h2 : i < ys.length := by omega
    exact ⟨xs, ys, xs[i], ys[i], q.1, q.2, by simp [h1], by simp [h2]⟩
  · obtain ⟨T, x, z, z1, z2, z3, z4, z5⟩ := y
    exact ⟨T, x, z, z1, z2, z3, z4 xs q.1, z5 ys q.2⟩
/-- alike at this depth: plain, or two lists, or two tuples, of items that are alike -/
def SamI (inner : Hp → V → V → Prop) (H : Hp) (x y : V) : Prop := (x = y ∧ Scal x) ∨ ∃ (a b : Addr) (xs ys : List V), x = .ref a ∧ y = .ref b ∧ ((H a = some (.lst xs) ∧ H b = some (.lst ys)) ∨ (H a = some (.tup xs) ∧ H b = some (.tup ys))) ∧ xs.length = ys.length ∧ xs.length ≤ 100000 ∧ ∀ (i : Nat) (v z : V), xs[i]? = some v → ys[i]? = some z → inner H v z
def spSame (r : Hp → V → V → Prop) : Sp := fun vs H Q _ => ∃ x y, vs = [x, y] ∧ r H x y ∧ ∀ H', Same H H' → Q (.bl true) H'
abbrev s_law_same : Stmt := topS 23
theorem sc_law_same : FnScope ["this", "that", "a", "b"] ["this", "that"] (defScope s_law_same) := ⟨rfl, rfl, rfl, by decide +kernel, rfl, by decide +kernel, by decide +kernel⟩
theorem ok_same {f : Addr} {fd : FuncData} {k0 : Nat} {inner : Hp → V → V → Prop} (F : Fun K "_law_same" "_law_same" s_law_same f fd) (T : Txt mg) (stay : ∀ H H' v z, Same H H' → inner H v z → inner H' v z)
    (c_same : Cal P w K mg base k0 "_law_same" ["this", "that"] (spSame inner)) : FnOk P w K mg base CX0 (k0 + 2) f fd ["this", "that"] (spSame (SamI inner)) := by
  refine F.ok sc_law_same (fun vs H Q E h => ?_) (fun cdv A outer s H vs Q E hr h => ?_)
  · obtain ⟨x, y, rfl, _⟩ := h
    rfl
  · obtain ⟨x, y, rfl, hxy, k⟩ := h
    obtain ⟨f_same, fd_same, G_same, m_same, k_same, b_same⟩ := c_same
    refine ⟨_, (pss_cons (ps_if (pt_val (pe_callB call_isiT (by rfl) T.b_isinstance (by decide +kernel) (pa_cons (pv 1) (pa_cons (pe_tup (pa_cons (pe_bltn (v := .ty "list") (by rfl) T.b_list (by decide +kernel) rfl) (pa_cons (pe_bltn (v := .ty "tuple") (by rfl) T.b_tuple (by decide +kernel) rfl) pa_nil))) pa_nil)))) (pss_cons (ps_if (PW.pt (pw_or (pt_cmpR op_ne (pe_callB call_isi (by rfl) T.b_isinstance (by decide +kernel) (pa_cons (pv 0) (pa_cons (pe_bltn (v := .ty "list") (by rfl) T.b_list (by decide +kernel) rfl) pa_nil))) (pe_callB call_isi (by rfl) T.b_isinstance (by decide +kernel) (pa_cons (pv 1) (pa_cons (pe_bltn (v := .ty "list") (by rfl) T.b_list (by decide +kernel) rfl) pa_nil))) (nomark _)) (pw_or1 (pt_cmpR op_ne (pe_callB call_isi (by rfl) T.b_isinstance (by decide +kernel) (pa_cons (pv 0) (pa_cons (pe_bltn (v := .ty "tuple") (by rfl) T.b_tuple (by decide +kernel) rfl) pa_nil))) (pe_callB call_isi (by rfl) T.b_isinstance (by decide +kernel) (pa_cons (pv 1) (pa_cons (pe_bltn (v := .ty "tuple") (by rfl) T.b_tuple (by decide +kernel) rfl) pa_nil))) (nomark _))))) (pss_one (ps_ret pe_bl)) pss_nil)
            (pss_one (ps_ret (pe_and (pe_cmpR op_eq (pe_callB call_len_seq (by rfl) T.b_len PySem.boot_len (pa_cons (pv 0) pa_nil)) (pe_callB call_len_seq (by rfl) T.b_len PySem.boot_len (pa_cons (pv 1) pa_nil)) (nomark _)) (pe_one (pe_callB (cr_all rfl) (by rfl) T.b_all (by decide +kernel) (pa_cons (pe_lc (own := [("a", 2), ("b", 3)]) (tt := tYes) rfl sc_law_same.nd (RZ.pi_zipA (by rfl) T.b_zip (pa_cons (pv 0) (pa_cons (pv 1) pa_nil))) (blkOk_by (N := ["this", "that", "a", "b"]) (sc := defScope s_law_same) (by decide +kernel)) (fun _ _ _ _ _ => (show PG _ _ (gTup K 2 (gCons (gName 2) (gCons (gName 3) gNil))) from pg_tup rfl (pgs_cons (pg_name (i := 2) sc_law_same.nd rfl (Or.inl rfl)) (pgs_cons (pg_name (i := 3) sc_law_same.nd rfl (Or.inl rfl)) pgs_nil)))) (fun _ _ _ _ _ => pts_nil) (fun _ _ _ _ _ => (pe_call G_same (hr.mono (by omega)) rfl m_same k_same b_same .nil pass0 (pa_cons (pv 2) (pa_cons (pv 3) pa_nil))))) pa_nil))))))) pss_nil)
          (pss_cons (ps_if (PW.pt (pw_or (pt_val (pe_callB call_isi (by rfl) T.b_isinstance (by decide +kernel) (pa_cons (pv 0) (pa_cons (pe_bltn (v := .ty "bool") (by rfl) T.b_bool (by decide +kernel) rfl) pa_nil)))) (pw_or1 (pt_val (pe_callB call_isi (by rfl) T.b_isinstance (by decide +kernel) (pa_cons (pv 1) (pa_cons (pe_bltn (v := .ty "bool") (by rfl) T.b_bool (by decide +kernel) rfl) pa_nil))))))) (pss_one (ps_ret (pe_and (pe_callB call_isi (by rfl) T.b_isinstance (by decide +kernel) (pa_cons (pv 0) (pa_cons (pe_bltn (v := .ty "bool") (by rfl) T.b_bool (by decide +kernel) rfl) pa_nil))) (pe_and (pe_callB call_isi (by rfl) T.b_isinstance (by decide +kernel) (pa_cons (pv 1) (pa_cons (pe_bltn (v := .ty "bool") (by rfl) T.b_bool (by decide +kernel) rfl) pa_nil))) (pe_one (pe_cmpR (op_eqD hr.units) (pv 0) (pv 1) (nomark _))))))) pss_nil)
          (pss_one (ps_ret (pe_cmpR (op_eqD hr.units) (pv 0) (pv 1) (nomark _)))))), ?_⟩
    refine ⟨_, rfl, (by show 2 ≤ sizeLine; decide), fun tp ntp => ?_⟩
    have s1 : Same H (upd H tp (.tup [.ty "list", .ty "tuple"])) := Same.new ntp
    rcases hxy with ⟨rfl, sc⟩ | ⟨a, b, xs, ys, rfl, rfl, hab, hxy, hl, hin⟩
    · obtain ⟨ty, ht, k1, k2, k3⟩ := sc.ty (K := K) (H := upd H tp (.tup [.ty "list", .ty "tuple"]))
      refine ⟨_, tp, _, _, _, _, rfl, upd_same, .cons (.ty "list") (.cons (.ty "tuple") .nil), ht, kitLT k1 k2, _, rfl, iteF ?_⟩
      refine ⟨_, rfl, _, _, _, _, false, rfl, .ty "bool", ht, kit_ty k3, _, rfl, ?_⟩
      refine iteF ⟨_, rfl, _, _, _, _, false, rfl, .ty "bool", ht, kit_ty k3, _, rfl, ?_⟩
      refine iteF ?_
      refine ⟨_, rfl, _, rfl, _, _, sc.dp, sc.dp, sc.shaped, sc.shaped, ?_⟩
      rw [PySem.SeqAt.eqv_refl _ sc.lay]
      exact k _ s1
    · rcases hab with ⟨ea, eb⟩ | ⟨ea, eb⟩
      · have ea1 := s1 _ _ ea
        have eb1 := s1 _ _ eb
        have tyb : TyX K (upd H tp (.tup [.ty "list", .ty "tuple"])) (.ref b) (.type "list") := .base (.lst eb1)
        have tya : TyX K (upd H tp (.tup [.ty "list", .ty "tuple"])) (.ref a) (.type "list") := .base (.lst ea1)
        refine ⟨_, tp, _, _, _, _, rfl, upd_same, .cons (.ty "list") (.cons (.ty "tuple") .nil), tyb, kitLT (a := true) (b := false) (by decide +kernel) (by decide +kernel), _, rfl, iteT ?_⟩
        refine ⟨_, rfl, _, _, _, _, true, rfl, .ty "list", tya, kit_ty (by decide +kernel), _, rfl, _, _, _, _, true, rfl, .ty "list", tyb, kit_ty (by decide +kernel), rfl, _, rfl, ?_⟩
        refine iteF ⟨_, rfl, _, _, _, _, false, rfl, .ty "tuple", tya, kit_ty (by decide +kernel), _, rfl, _, _, _, _, false, rfl, .ty "tuple", tyb, kit_ty (by decide +kernel), rfl, _, rfl, ?_⟩
        refine iteF ?_
        refine ⟨_, rfl, _, _, rfl, .inl (SqL.of ea1), _, rfl, _, _, rfl, .inl (SqL.of eb1), rfl, ?_⟩
        refine ⟨_, rfl, iteT' (decide_eq_true (by rw [hxy])) ?_⟩
        refine ⟨_, rfl, _, rfl, a, b, xs, ys, rfl, .inl ⟨SqL.of ea1, SqL.of eb1, fun D nD => ?_⟩⟩
        obtain ⟨H1, e1⟩ : ∃ H1, H1 = upd H tp (.tup [.ty "list", .ty "tuple"]) := ⟨_, rfl⟩
        rw [← e1] at s1 ea1 eb1 nD ⊢
        refine lc_it (n := xs.length) (walk_zip (K := K) (a := a) (b := b) (xs := xs) (ys := ys) (by rw [← hxy, Nat.min_self])) (fun i h => h D = some (.lst (List.replicate i (.bl true))) ∧ Same H1 h) ⟨upd_same, Same.new nD⟩ (fun i h _ p => ⟨SqL.of (p.2 _ _ ea1), SqL.of (p.2 _ _ eb1)⟩) ?_ ?_
        · rintro i x h h' hi ⟨hD, sh⟩ ⟨T, x1, y1, rfl, nT, rfl, hx1, hy1⟩
          have hx1' : xs[i]? = some x1 := hx1
          have hy1' : ys[i]? = some y1 := hy1
          have s2 : Same h (upd h T (.tup [x1, y1])) := Same.new nT
          refine ⟨T, _, rfl, SqT.of upd_same, rfl, _, _, rfl, _, _, rfl, rfl, rfl, yesC ⟨_, rfl, _, rfl, x1, y1, rfl, stay _ _ _ _ (s1.trans (sh.trans s2)) (hin i x1 y1 hx1' hy1'), fun H' s3 => ?_⟩⟩
          have hD' := s3 _ _ (s2 _ _ hD)
          refine ⟨_, hD', by rw [List.length_replicate]; exact Nat.lt_of_lt_of_le (show i < 100001 by omega) (by decide), ?_, fun c o e => ?_⟩
          · rw [upd_same, List.replicate_succ']
          · rw [upd_ne (ne_of_none e nD)]
            exact s3 _ _ (s2 _ _ (sh _ _ e))
        · rintro h ⟨hD, sh⟩
          refine ⟨D, List.replicate xs.length true, rfl, SqL.of (by rw [List.map_replicate]; exact hD), ?_⟩
          rw [show (List.replicate xs.length true).all id = true by simp]
          exact k _ (s1.trans sh)
      · have ea1 := s1 _ _ ea
        have eb1 := s1 _ _ eb
        have tyb : TyX K (upd H tp (.tup [.ty "list", .ty "tuple"])) (.ref b) (.type "tuple") := .base (.tup eb1)
        have tya : TyX K (upd H tp (.tup [.ty "list", .ty "tuple"])) (.ref a) (.type "tuple") := .base (.tup ea1)
        refine ⟨_, tp, _, _, _, _, rfl, upd_same, .cons (.ty "list") (.cons (.ty "tuple") .nil), tyb, kitLT (a := false) (b := true) (by decide +kernel) (by decide +kernel), _, rfl, iteT ?_⟩
        refine ⟨_, rfl, _, _, _, _, false, rfl, .ty "list", tya, kit_ty (by decide +kernel), _, rfl, _, _, _, _, false, rfl, .ty "list", tyb, kit_ty (by decide +kernel), rfl, _, rfl, ?_⟩
        refine iteF ⟨_, rfl, _, _, _, _, true, rfl, .ty "tuple", tya, kit_ty (by decide +kernel), _, rfl, _, _, _, _, true, rfl, .ty "tuple", tyb, kit_ty (by decide +kernel), rfl, _, rfl, ?_⟩
        refine iteF ?_
        refine ⟨_, rfl, _, _, rfl, .inr (SqT.of ea1), _, rfl, _, _, rfl, .inr (SqT.of eb1), rfl, ?_⟩
        refine ⟨_, rfl, iteT' (decide_eq_true (by rw [hxy])) ?_⟩
        refine ⟨_, rfl, _, rfl, a, b, xs, ys, rfl, .inr ⟨SqT.of ea1, SqT.of eb1, fun D nD => ?_⟩⟩
        obtain ⟨H1, e1⟩ : ∃ H1, H1 = upd H tp (.tup [.ty "list", .ty "tuple"]) := ⟨_, rfl⟩
        rw [← e1] at s1 ea1 eb1 nD ⊢
        refine lc_it (n := xs.length) (walk_zipT (K := K) (a := a) (b := b) (xs := xs) (ys := ys) (by rw [← hxy, Nat.min_self])) (fun i h => h D = some (.lst (List.replicate i (.bl true))) ∧ Same H1 h) ⟨upd_same, Same.new nD⟩ (fun i h _ p => ⟨SqT.of (p.2 _ _ ea1), SqT.of (p.2 _ _ eb1)⟩) ?_ ?_
        · rintro i x h h' hi ⟨hD, sh⟩ ⟨T, x1, y1, rfl, nT, rfl, hx1, hy1⟩
          have hx1' : xs[i]? = some x1 := hx1
          have hy1' : ys[i]? = some y1 := hy1
          have s2 : Same h (upd h T (.tup [x1, y1])) := Same.new nT
          refine ⟨T, _, rfl, SqT.of upd_same, rfl, _, _, rfl, _, _, rfl, rfl, rfl, yesC ⟨_, rfl, _, rfl, x1, y1, rfl, stay _ _ _ _ (s1.trans (sh.trans s2)) (hin i x1 y1 hx1' hy1'), fun H' s3 => ?_⟩⟩
          have hD' := s3 _ _ (s2 _ _ hD)
          refine ⟨_, hD', by rw [List.length_replicate]; exact Nat.lt_of_lt_of_le (show i < 100001 by omega) (by decide), ?_, fun c o e => ?_⟩
          · rw [upd_same, List.replicate_succ']
          · rw [upd_ne (ne_of_none e nD)]
            exact s3 _ _ (s2 _ _ (sh _ _ e))
        · rintro h ⟨hD, sh⟩
          refine ⟨D, List.replicate xs.length true, rfl, SqL.of (by rw [List.map_replicate]; exact hD), ?_⟩
          rw [show (List.replicate xs.length true).all id = true by simp]
          exact k _ (s1.trans sh)

/-! ### what is shown of the parts -/
theorem Od.weight {H : Hp} {x : V} {d : PyData} (o : Od H x d) : d.weight ≤ 300 := by
  cases o with
  | non => simp [PyData.weight]
  | bl b => simp [PyData.weight]
  | @int i h =>
    simp only [PyData.weight]
    split
    · omega
    · have : i.natAbs.log2 < 256 := by
        by_cases z : i.natAbs = 0
        · rw [z]
          decide
        · exact (Nat.log2_lt z).mpr h
      omega
  | @str s h h2 =>
    simp only [PyData.weight]
    exact Nat.le_trans h (by decide)
  | l0 e => simp [PyData.weight, PyData.weightAll]
  | t0 e => simp [PyData.weight, PyData.weightAll]
  | @l1 a s e h h2 =>
    have h' : s.cps.size ≤ 40 := h
    simp only [PyData.weight, PyData.weightAll]
    omega
  | @t1 a s e h h2 =>
    have h' : s.cps.size ≤ 40 := h
    simp only [PyData.weight, PyData.weightAll]
    omega
  | @l2 a b s e e2 h h2 =>
    have h' : s.cps.size ≤ 40 := h
    simp only [PyData.weight, PyData.weightAll]
    omega
theorem int_log {i : Int} (h : i.natAbs < 2 ^ 256) : i.natAbs.log2 < 256 := by
  by_cases z : i.natAbs = 0
  · rw [z]
    decide
  · exact (Nat.log2_lt z).mpr h
theorem Od.show {H : Hp} {x : V} {d : PyData} (o : Od H x d) : d.showable = true ∧ d.hasDict = false ∧ d.intsShort 300 = true := by
  cases o with
  | non => exact ⟨rfl, rfl, rfl⟩
  | bl b => exact ⟨rfl, rfl, rfl⟩
  | @int i h =>
    have := int_log h
    refine ⟨by simp only [PyData.showable]; exact decide_eq_true (by omega), rfl, ?_⟩
    simp only [PyData.intsShort]
    refine decide_eq_true ?_
    have q := PySem.int_text_length_le (k := 256) (by decide) this
    show (Str.ofString (toString i)).length ≤ 300
    rw [PySem.ofString_length]
    omega
  | str h h2 => exact ⟨rfl, rfl, rfl⟩
  | l0 e => exact ⟨rfl, rfl, rfl⟩
  | t0 e => exact ⟨rfl, rfl, rfl⟩
  | l1 e h h2 => exact ⟨rfl, rfl, rfl⟩
  | t1 e h h2 => exact ⟨rfl, rfl, rfl⟩
  | l2 e e2 h h2 => exact ⟨rfl, rfl, rfl⟩
theorem four_show {H : Hp} {x1 x2 x3 x4 : V} {d1 d2 d3 d4 : PyData} (o1 : Od H x1 d1) (o2 : Od H x2 d2) (o3 : Od H x3 d3) (o4 : Od H x4 d4) :
    (PyData.list [d1, d2, d3, d4]).showable = true ∧ (PyData.list [d1, d2, d3, d4]).hasDict = false ∧ (PyData.list [d1, d2, d3, d4]).depth ≤ 60 ∧ (PyData.list [d1, d2, d3, d4]).shown.length ≤ sizeLine := by
  obtain ⟨a1, b1, c1⟩ := o1.show
  obtain ⟨a2, b2, c2⟩ := o2.show
  obtain ⟨a3, b3, c3⟩ := o3.show
  obtain ⟨a4, b4, c4⟩ := o4.show
  have l1 := o1.lay
  have l2 := o2.lay
  have l3 := o3.lay
  have l4 := o4.lay
  refine ⟨by simp [PyData.showable, PyData.showableAll, a1, a2, a3, a4], by simp [PyData.hasDict, PyData.hasDictAll, b1, b2, b3, b4], ?_, ?_⟩
  · have e1 := o1.depth
    have e2 := o2.depth
    have e3 := o3.depth
    have e4 := o4.depth
    simp only [PyData.depth, PyData.depthAll]
    omega
  · have s := PyData.shown_le 300 (by decide) (PyData.list [d1, d2, d3, d4]) (PyData.leavesShort_of_canLay0 300 _ (by simp [PyData.canLay0, PyData.canLayAll0, l1, l2, l3, l4]) (by simp [PyData.intsShort, PyData.intsShortAll, c1, c2, c3, c4]))
    have w1 := o1.weight
    have w2 := o2.weight
    have w3 := o3.weight
    have w4 := o4.weight
    have e : (PyData.list [d1, d2, d3, d4]).weight ≤ 1300 := by
      simp only [PyData.weight, PyData.weightAll]
      omega
    exact Nat.le_trans (show _ ≤ 400000 by omega) (by decide)
theorem four_dp {K : PySem.W.Frag} {H : Hp} {l : Addr} {x1 x2 x3 x4 : V} {d1 d2 d3 d4 : PyData} (e : H l = some (.lst [x1, x2, x3, x4])) (o1 : Od H x1 d1) (o2 : Od H x2 d2) (o3 : Od H x3 d3) (o4 : Od H x4 d4) : Dp K H (.ref l) (.list [d1, d2, d3, d4]) :=
  .lst (SqL.of e) (.cons o1.dp (.cons o2.dp (.cons o3.dp (.cons o4.dp .nil))))
/-! ### _law_odd -/
def signsS : Str := " !\"#$&'()*+,-./0123456789:;<=>?\x40[\\]^_{|}~ABCDEFGHIJKLMNOPQRSTUVWXYZ\t\n`"
def Okt (s : Str) (n : Nat) : Prop := s.length ≤ n ∧ ∀ c ∈ s.cps.toList, c < 128
theorem Okt.strOk {s : Str} {n : Nat} (h : Okt s n) : PyData.strOk s = true := by
  show s.cps.all (· < 0x110000) = true
  rw [← Array.all_toList, List.all_eq_true]
  intro c hc
  have := h.2 c hc
  exact decide_eq_true (by omega)
theorem Okt.od {H : Hp} {s : Str} {n : Nat} (h : Okt s n) (e : n ≤ 40) : Od H (.str s) (.str s) := .str (Nat.le_trans h.1 e) h.strOk
theorem Okt.app {a b : Str} {m n : Nat} (ha : Okt a m) (hb : Okt b n) : Okt (a ++ b) (m + n) := by
  refine ⟨by rw [Str.length_append]; exact Nat.add_le_add ha.1 hb.1, fun c hc => ?_⟩
  rw [Str.cps_append, Array.toList_append, List.mem_append] at hc
  exact hc.elim (ha.2 c) (hb.2 c)
theorem Okt.cut {a : Str} {n : Nat} (h : Okt a n) (lo hi : Option Int) : Okt (cutS a lo hi) n := by
  refine ⟨Nat.le_trans (cutS_length a lo hi) h.1, fun c hc => h.2 c ?_⟩
  have hc' : c ∈ (a.cps.toList.drop (HT.sIx a.length 0 lo)).take (HT.sIx a.length a.length hi - HT.sIx a.length 0 lo) := by simpa [cutS] using hc
  exact List.mem_of_mem_drop (List.mem_of_mem_take hc')
theorem Okt.name {s : Str} (h : NameS s) : Okt s 8 := ⟨h.2.1, fun c hc => by have := (h.2.2 c hc).2; omega⟩
theorem Okt.up {s : Str} {n : Nat} (h : Okt s n) : Okt (Txt.upper s) n := by
  rw [PyProof.Rows.upper_ascii h.2]
  refine ⟨by show (s.cps.map _).size ≤ n; rw [Array.size_map]; exact h.1, fun c hc => ?_⟩
  obtain ⟨d, hd, rfl⟩ := List.mem_map.mp (show c ∈ s.cps.toList.map PyProof.Rows.up1 by simpa using hc)
  have := h.2 d hd
  unfold PyProof.Rows.up1
  split <;> omega
theorem lit_ok {s : Str} {n : Nat} (h : (decide (s.length ≤ n) && s.cps.toList.all fun c => decide (c < 128)) = true) : Okt s n := by
  rw [Bool.and_eq_true, decide_eq_true_eq, List.all_eq_true] at h
  exact ⟨h.1, fun c hc => of_decide_eq_true (h.2 c hc)⟩
theorem signs_len : signsS.length = 70 := by decide +kernel
theorem sign_at {i : Int} (h0 : 0 ≤ i) (h : i < 70) : ∃ c, atI signsS.cps.toList i = some c ∧ c < 128 := by
  have hl : signsS.cps.toList.length = 70 := by rw [← Str_len]; exact signs_len
  have h1 : i.toNat < signsS.cps.toList.length := by omega
  have h2 := atI_nat (List.getElem?_eq_getElem h1)
  rw [Int.toNat_of_nonneg h0] at h2
  refine ⟨_, h2, ?_⟩
  have all : (signsS.cps.toList.all fun c => decide (c < 128)) = true := by decide +kernel
  exact of_decide_eq_true (List.all_eq_true.mp all _ (List.getElem_mem _))
def Ods (H : Hp) (xs : List V) : Prop := ∀ x ∈ xs, ∃ d, Od H x d
theorem Ods.same {H H' : Hp} {xs : List V} (h : Ods H xs) (s : Same H H') : Ods H' xs := fun x hx => by
  obtain ⟨d, o⟩ := h x hx
  exact ⟨d, o.same s⟩
theorem Ods.move {p : Addr} {H H' : Hp} {n : Int} {xs : List V} (h : Ods H xs) (k : Keep p H H') (u : Pu H p n) : Ods H' xs := fun x hx => by
  obtain ⟨d, o⟩ := h x hx
  exact ⟨d, o.move k u⟩
theorem Ods.nil {H : Hp} : Ods H [] := fun _ h => (nomatch h)
theorem Ods.cons {H : Hp} {x : V} {d : PyData} {xs : List V} (o : Od H x d) (h : Ods H xs) : Ods H (x :: xs) := fun y hy => by
  rcases List.mem_cons.mp hy with e | hy
  · exact ⟨d, e ▸ o⟩
  · exact h y hy
theorem Ods.app {H : Hp} {xs ys : List V} (h : Ods H xs) (k : Ods H ys) : Ods H (xs ++ ys) := fun y hy => (List.mem_append.mp hy).elim (h y) (k y)
theorem Pu.ne {h : Hp} {p q : Addr} {m : Int} (u : Pu h p m) (n : h q = none) : q ≠ p := fun e => by
  obtain ⟨_, _, _, e2, _⟩ := u
  rw [e, e2] at n
  cases n
structure Dr (p : Addr) (H h : Hp) (m : Int) : Prop where
  kp : Keep p H h
  pu : Pu h p m
theorem Dr.coin {p : Addr} {H h h' : Hp} {m m' : Int} (B : Dr p H h m) (k : Keep p h h') (u : Pu h' p m') : Dr p H h' m' := ⟨B.kp.trans k, u⟩
theorem Dr.new {p : Addr} {H h : Hp} {m : Int} {u : Addr} {o : HO} (B : Dr p H h m) (n : h u = none) : Dr p H (upd h u o) m := ⟨B.kp.trans (Keep.same (Same.new n)), B.pu.same (Same.new n)⟩
theorem Dr.mono {p : Addr} {H h : Hp} {m m' : Int} (B : Dr p H h m) (e : m ≤ m') : Dr p H h m' := ⟨B.kp, B.pu.mono e⟩
def spOdd : Sp := fun vs H Q _ => ∃ (p : Addr) (word : Str) (n : Int), vs = [.ref p, .str word] ∧ Pu H p n ∧ NameS word ∧ n + 20 < 2 ^ 30 ∧ ∀ x d H', Od H' x d → Pu H' p (n + 6) → Keep p H H' → Q x H'
abbrev s_law_odd : Stmt := topS 28
theorem sc_law_odd : FnScope ["purse", "word", "signs", "at", "odd"] ["purse", "word"] (defScope s_law_odd) := ⟨rfl, rfl, rfl, by decide +kernel, rfl, by decide +kernel, by decide +kernel⟩
theorem ok_odd {f : Addr} {fd : FuncData} (F : Fun K "_law_odd" "_law_odd" s_law_odd f fd) (T : Txt mg) (c_coin : Cal P w K mg base 1 "_law_coin" ["purse", "many"] spCoin) : FnOk P w K mg base CX0 2 f fd ["purse", "word"] spOdd := by
  refine F.ok sc_law_odd (fun vs H Q E h => ?_) (fun cdv A outer s H vs Q E hr h => ?_)
  · obtain ⟨p, word, n, rfl, _⟩ := h
    rfl
  · obtain ⟨p, word, n, rfl, u, nw, hn, k⟩ := h
    obtain ⟨f_coin, fd_coin, G_coin, m_coin, k_coin, b_coin⟩ := c_coin
    refine ⟨_, (pss_cons (ps_set (i := 2) sc_law_odd.nd rfl (Or.inl rfl) pe_str)
          (C8.pss_cut (ps_set (i := 3) sc_law_odd.nd rfl (Or.inl rfl) (pe_call G_coin (hr.mono (by decide)) rfl m_coin k_coin b_coin .nil pass0 (pa_cons (pv 0) (pa_cons (pe_op op_add (pe_callB call_len_str (by rfl) T.b_len PySem.boot_len (pa_cons (pv 1) pa_nil)) pe_int) pa_nil))))
          (C8.pss_cut (ps_set (i := 4) sc_law_odd.nd rfl (Or.inl rfl) (pe_lst (pa_cons (pe_op op_add_str (pe_op op_add_str (pe_slice sl_str (pv 1) po_none (po_some (pv 3))) (pe_ix ix_str (pv 2) (pe_call G_coin (hr.mono (by decide)) rfl m_coin k_coin b_coin .nil pass0 (pa_cons (pv 0) (pa_cons (pe_callB call_len_str (by rfl) T.b_len PySem.boot_len (pa_cons (pv 2) pa_nil)) pa_nil))) (fun _ _ => rfl))) (pe_slice sl_str (pv 1) (po_some (pv 3)) po_none)) (pa_cons pe_str (pa_cons (pe_slice sl_str (pe_op op_add_str (pv 1) pe_str) po_none (po_some pe_int)) (pa_cons (pe_upper (pv 1) ) (pa_cons pe_non pa_nil)))))))
          (C8.pss_cut (ps_set (i := 4) sc_law_odd.nd rfl (Or.inl rfl) (pe_op op_cat (pv 4) (pe_lst (pa_cons pe_bl (pa_cons pe_bl (pa_cons pe_int (pa_cons pe_int (pa_cons (pe_un un_neg pe_int) (pa_cons (pe_op op_pow pe_int pe_int) (pa_cons (pe_op op_add (pe_op op_pow pe_int pe_int) pe_int) (pa_cons (pe_op op_pow pe_int pe_int) (pa_cons (pe_un un_neg (pe_op op_pow pe_int pe_int)) (pa_cons pe_str (pa_cons pe_str (pa_cons (pe_lst (pa_cons (pv 1) pa_nil)) (pa_cons (pe_tup (pa_cons (pv 1) pa_nil)) (pa_cons (pe_lst pa_nil) (pa_cons (pe_tup pa_nil) pa_nil))))))))))))))))))
          (C8.pss_cut (ps_set (i := 4) sc_law_odd.nd rfl (Or.inl rfl) (pe_op op_cat (pv 4) (pe_lst (pa_cons pe_str (pa_cons pe_str (pa_cons pe_str (pa_cons pe_str (pa_cons pe_str (pa_cons pe_str (pa_cons pe_str (pa_cons (pe_lst (pa_cons (pe_lst (pa_cons pe_str pa_nil)) pa_nil)) (pa_cons (pe_call G_coin (hr.mono (by decide)) rfl m_coin k_coin b_coin .nil pass0 (pa_cons (pv 0) (pa_cons (pe_op op_mul pe_int (pe_op op_pow pe_int pe_int)) pa_nil))) pa_nil))))))))))))
          (pss_one (ps_ret (pe_ix (r := rIxL K) ix_list (pv 4) (pe_call G_coin (hr.mono (by decide)) rfl m_coin k_coin b_coin .nil pass0 (pa_cons (pv 0) (pa_cons (pe_callB call_len_seq (by rfl) T.b_len PySem.boot_len (pa_cons (pv 4) pa_nil)) pa_nil))) (fun _ _ => rfl))))))))), ?_⟩
    have ow := Okt.name nw
    have lw : word.length ≤ 8 := nw.2.1
    have lw2 : word.length ≤ sizeLine := Nat.le_trans lw (by decide)
    have B0 : Dr p H H n := ⟨Keep.refl p H, u⟩
    refine ⟨fun σ h => ∃ at_ : Int, σ = [some (.ref p), some (.str word), some (.str signsS), some (.int at_), none] ∧ (0 ≤ at_ ∧ at_ ≤ 8) ∧ Dr p H h (n + 1), ?_, ?_⟩
    · refine ⟨_, rfl, _, rfl, word, rfl, lw2, _, _, rfl, rfl, p, _, _, rfl, B0.pu, by omega, by omega, by omega, fun r1 h1 r1a r1b w1 k1 => ?_⟩
      exact ⟨r1, rfl, ⟨r1a, by omega⟩, B0.coin k1 w1⟩
    rintro σ h1 ⟨at_, rfl, hat, B1⟩
    refine ⟨fun σ h => ∃ (q : Addr) (xs : List V), σ = [some (.ref p), some (.str word), some (.str signsS), some (.int at_), some (.ref q)] ∧ h q = some (.lst xs) ∧ q ≠ p ∧ Ods h xs ∧ xs.length = 5 ∧ Dr p H h (n + 2), ?_, ?_⟩
    · have ls : signsS.length ≤ sizeLine := by
        rw [signs_len]
        decide
      have hs : (signsS.length : Int) = 70 := by rw [signs_len]; rfl
      refine ⟨_, rfl, _, rfl, _, rfl, word, rfl, lw2, ?_⟩
      refine ⟨_, rfl, _, rfl, _, rfl, signsS, rfl, ls, p, _, _, rfl, B1.pu, by omega, (by rw [hs]; decide), (by rw [hs]; decide), fun r1 h2 r1a r1b w1 k1 => ?_⟩
      rw [hs] at r1b
      have B2 := B1.coin k1 w1
      obtain ⟨c, hc, c128⟩ := sign_at r1a r1b
      have oc : Okt (⟨#[c]⟩ : Str) 1 := ⟨Nat.le_refl _, fun d hd => by
        have e : d = c := by simpa using hd
        omega⟩
      have o1 := (ow.cut none (some at_)).app oc
      have o2 := o1.app (ow.cut (some at_) none)
      refine ⟨signsS, _, _, rfl, rfl, ls, hc, _, _, rfl, rfl, Nat.le_trans (Nat.add_le_add (ow.cut none (some at_)).1 oc.1) (by decide), ?_⟩
      refine ⟨_, rfl, _, rfl, _, rfl, word, rfl, lw2, _, _, rfl, rfl, Nat.le_trans (Nat.add_le_add o1.1 (ow.cut (some at_) none).1) (by decide), ?_⟩
      have o3 := ow.app (lit_ok (s := "abcdefgh") (n := 8) (by decide +kernel))
      refine ⟨_, rfl, _, _, rfl, rfl, Nat.le_trans (Nat.add_le_add ow.1 (lit_ok (s := "abcdefgh") (n := 8) (by decide +kernel)).1) (by decide), _, rfl, _, rfl, Nat.le_trans o3.1 (by decide), ?_⟩
      refine ⟨_, rfl, ⟨_, rfl⟩, word, rfl, rfl, Nat.le_trans lw (by decide), (by show 5 ≤ sizeLine; decide), fun q nq => ?_⟩
      refine ⟨q, _, rfl, upd_same, B2.pu.ne nq, ?_, rfl, (B2.new nq).mono (by omega)⟩
      exact Ods.cons (o2.od (by decide)) (Ods.cons ((lit_ok (s := "") (n := 0) (by decide +kernel)).od (by decide)) (Ods.cons ((o3.cut none (some 9)).od (by decide)) (Ods.cons (ow.up.od (by decide)) (Ods.cons .non Ods.nil))))
    rintro σ h2 ⟨q, xs, rfl, hq, qp, os, hl, B2⟩
    refine ⟨fun σ h => ∃ (q : Addr) (xs : List V), σ = [some (.ref p), some (.str word), some (.str signsS), some (.int at_), some (.ref q)] ∧ h q = some (.lst xs) ∧ q ≠ p ∧ Ods h xs ∧ xs.length = 20 ∧ Dr p H h (n + 2), ?_, ?_⟩
    · refine ⟨_, rfl, _, rfl, _, _, rfl, rfl, ⟨by decide, by decide, by decide⟩, _, _, rfl, rfl, ⟨by decide, by decide, by decide⟩, _, _, rfl, rfl, _, _, rfl, rfl, ⟨by decide, by decide, by decide⟩, _, _, rfl, rfl, ⟨by decide, by decide, by decide⟩, _, rfl, ?_⟩
      refine ⟨_, rfl, (by show 1 ≤ sizeLine; decide), fun u1 n1 => ⟨_, rfl, (by show 1 ≤ sizeLine; decide), fun u2 n2 => ⟨Nat.zero_le _, fun u3 n3 => ⟨Nat.zero_le _, fun u4 n4 => ⟨(by show 15 ≤ sizeLine; decide), fun u5 n5 => ?_⟩⟩⟩⟩⟩
      have s1 := Same.new n1 (o := .lst [.str word])
      have s2 := Same.new n2 (o := .tup [.str word])
      have s3 := Same.new n3 (o := .lst [])
      have s4 := Same.new n4 (o := .tup [])
      have s5 := Same.new n5 (o := .lst [V.bl true, V.bl false, V.int 0, V.int 1, .int (-1), .int (10 ^ (6 : Int).toNat), .int (10 ^ (6 : Int).toNat + 1), .int (10 ^ (59 : Int).toNat), .int (-(10 ^ (59 : Int).toNat)), .str "0", .str "1", .ref u1, .ref u2, .ref u3, .ref u4])
      refine ⟨q, u5, xs, _, rfl, rfl, s5 _ _ (s4 _ _ (s3 _ _ (s2 _ _ (s1 _ _ hq)))), upd_same, (by rw [hl]; show 20 ≤ sizeLine; decide), fun u6 n6 => ?_⟩
      have s6 := Same.new n6 (o := .lst (xs ++ [V.bl true, V.bl false, V.int 0, V.int 1, .int (-1), .int (10 ^ (6 : Int).toNat), .int (10 ^ (6 : Int).toNat + 1), .int (10 ^ (59 : Int).toNat), .int (-(10 ^ (59 : Int).toNat)), .str "0", .str "1", .ref u1, .ref u2, .ref u3, .ref u4]))
      have all := s1.trans (s2.trans (s3.trans (s4.trans (s5.trans s6))))
      refine ⟨u6, _, rfl, upd_same, (B2.pu.same (s1.trans (s2.trans (s3.trans (s4.trans s5))))).ne n6, (os.same all).app ?_, (by rw [List.length_append, hl]; rfl), ⟨B2.kp.trans (Keep.same all), B2.pu.same all⟩⟩
      have e1 := s6 _ _ (s5 _ _ (s4 _ _ (s3 _ _ (s2 _ _ (upd_same (H := h2) (a := u1) (o := .lst [.str word]))))))
      have e2 := s6 _ _ (s5 _ _ (s4 _ _ (s3 _ _ (upd_same (H := upd h2 u1 (.lst [.str word])) (a := u2) (o := .tup [.str word])))))
      have e3 := s6 _ _ (s5 _ _ (s4 _ _ (upd_same (a := u3) (o := .lst []))))
      have e4 := s6 _ _ (s5 _ _ (upd_same (a := u4) (o := .tup [])))
      exact Ods.cons (.bl true) (Ods.cons (.bl false) (Ods.cons (.int (by decide)) (Ods.cons (.int (by decide)) (Ods.cons (.int (by decide)) (Ods.cons (.int (by decide +kernel)) (Ods.cons (.int (by decide +kernel)) (Ods.cons (.int (by decide +kernel)) (Ods.cons (.int (by decide +kernel))
        (Ods.cons ((lit_ok (s := "0") (n := 1) (by decide +kernel)).od (by decide)) (Ods.cons ((lit_ok (s := "1") (n := 1) (by decide +kernel)).od (by decide)) (Ods.cons (.l1 e1 (Nat.le_trans ow.1 (by decide)) ow.strOk) (Ods.cons (.t1 e2 (Nat.le_trans ow.1 (by decide)) ow.strOk) (Ods.cons (.l0 e3) (Ods.cons (.t0 e4) Ods.nil))))))))))))))
    rintro σ h3 ⟨q, xs, rfl, hq, qp, os, hl, B3⟩
    refine ⟨fun σ h => ∃ (q : Addr) (xs : List V), σ = [some (.ref p), some (.str word), some (.str signsS), some (.int at_), some (.ref q)] ∧ h q = some (.lst xs) ∧ q ≠ p ∧ Ods h xs ∧ xs.length = 29 ∧ Dr p H h (n + 3), ?_, ?_⟩
    · refine ⟨_, rfl, (by show 1 ≤ sizeLine; decide), fun u1 n1 => ⟨(by show 1 ≤ sizeLine; decide), fun u2 n2 => ?_⟩⟩
      have s1 := Same.new n1 (o := .lst [.str "rank"])
      have s2 := Same.new n2 (o := .lst [.ref u1])
      refine ⟨_, rfl, _, _, rfl, rfl, ⟨by decide, by decide, by decide⟩, _, _, rfl, rfl, .inl ⟨by decide, by decide⟩, p, _, _, rfl, (B3.pu.same s1).same s2, by omega, by decide, by decide, fun r1 h4 r1a r1b w1 k1 => ⟨(by show 9 ≤ sizeLine; decide), fun u3 n3 => ?_⟩⟩
      have hq4 := k1 _ _ qp (s2 _ _ (s1 _ _ hq))
      have os4 := ((os.same s1).same s2).move k1 ((B3.pu.same s1).same s2)
      have B4 : Dr p H h4 (n + 2 + 1) := ⟨(B3.kp.trans (Keep.same (s1.trans s2))).trans k1, w1⟩
      have e1 := k1 _ _ (((B3.pu).ne n1)) (s2 _ _ (upd_same (H := h3) (a := u1) (o := .lst [.str "rank"])))
      have e2 := k1 _ _ ((B3.pu.same s1).ne n2) (upd_same (a := u2) (o := .lst [.ref u1]))
      have s3 := Same.new n3 (o := .lst [.str "Rank", .str "ranks", .str "shares", .str "rank ", .str "", .str "share", .str "rank", .ref u2, .int r1])
      refine ⟨q, u3, xs, _, rfl, rfl, s3 _ _ hq4, upd_same, (by rw [hl]; show 29 ≤ sizeLine; decide), fun u4 n4 => ?_⟩
      have s4 := Same.new n4 (o := .lst (xs ++ [.str "Rank", .str "ranks", .str "shares", .str "rank ", .str "", .str "share", .str "rank", .ref u2, .int r1]))
      have all := s3.trans s4
      refine ⟨u4, _, rfl, upd_same, (w1.same s3).ne n4, (os4.same all).app ?_, (by rw [List.length_append, hl]; rfl), ⟨B4.kp.trans (Keep.same all), (w1.same all).mono (by omega)⟩⟩
      have r1c : r1 < 2 * 10 ^ 6 := r1b
      exact Ods.cons ((lit_ok (s := "Rank") (n := 6) (by decide +kernel)).od (by decide)) (Ods.cons ((lit_ok (s := "ranks") (n := 6) (by decide +kernel)).od (by decide)) (Ods.cons ((lit_ok (s := "shares") (n := 6) (by decide +kernel)).od (by decide)) (Ods.cons ((lit_ok (s := "rank ") (n := 6) (by decide +kernel)).od (by decide))
        (Ods.cons ((lit_ok (s := "") (n := 6) (by decide +kernel)).od (by decide)) (Ods.cons ((lit_ok (s := "share") (n := 6) (by decide +kernel)).od (by decide)) (Ods.cons ((lit_ok (s := "rank") (n := 6) (by decide +kernel)).od (by decide))
        (Ods.cons (.l2 (all _ _ e2) (all _ _ e1) (by decide +kernel) (by decide +kernel)) (Ods.cons (.int (by omega)) Ods.nil))))))))
    rintro σ h4 ⟨q, xs, rfl, hq, qp, os, hl, B4⟩
    have hl2 : (xs.length : Int) = 29 := by rw [hl]; rfl
    refine ⟨_, rfl, _, rfl, _, rfl, _, _, rfl, .inl (SqL.of hq), p, _, _, rfl, B4.pu, by omega, (by rw [hl2]; decide), (by rw [hl2]; decide), fun r1 h5 r1a r1b w1 k1 => ?_⟩
    rw [hl2] at r1b
    have hq5 := k1 _ _ qp hq
    have c4 : r1.toNat < xs.length := by omega
    have c5 : atI xs r1 = some xs[r1.toNat] := by
      have c6 := atI_nat (List.getElem?_eq_getElem c4)
      rw [Int.toNat_of_nonneg r1a] at c6
      exact c6
    obtain ⟨d, od⟩ := (os.move k1 B4.pu) xs[r1.toNat] (List.getElem_mem _)
    exact ⟨q, _, _, _, rfl, rfl, SqL.of hq5, c5, k _ d h5 od (w1.mono (by omega)) (B4.kp.trans k1)⟩

theorem kw0 (D : Addr) (doc pm : Value) (an : Option Addr) (cdv ct u0 u1 w0 w1 : Value) : KwChain D [] (PySem.bindArgs (PySem.W.fnOf "listed" "listed" (defArgs s_listed) (defBody s_listed) (defScope s_listed) .none (.ref D) doc pm an cdv ct) ⟨[u0, u1], [("rule", w0), ("band", w1)]⟩) [("name", u0), ("start", u1), ("band", w1), ("rule", w0)] := by first | rfl | with_unfolding_all rfl | kernel_rfl
theorem kw1a (D : Addr) (doc pm : Value) (an : Option Addr) (cdv ct u0 u1 m0 w0 : Value) : KwChain D [("band", m0)] (PySem.bindArgs (PySem.W.fnOf "listed" "listed" (defArgs s_listed) (defBody s_listed) (defScope s_listed) .none (.ref D) doc pm an cdv ct) ⟨[u0, u1], [("rule", w0)]⟩) [("name", u0), ("start", u1), ("band", m0), ("rule", w0)] := by
  first
    | exact ⟨_, _, _, _, _, _, rfl, rfl, rfl⟩
    | with_unfolding_all exact ⟨_, _, _, _, _, _, rfl, rfl, rfl⟩
theorem kw1b (D : Addr) (doc pm : Value) (an : Option Addr) (cdv ct u0 u1 m0 w0 : Value) : KwChain D [("rule", m0)] (PySem.bindArgs (PySem.W.fnOf "listed" "listed" (defArgs s_listed) (defBody s_listed) (defScope s_listed) .none (.ref D) doc pm an cdv ct) ⟨[u0, u1], [("band", w0)]⟩) [("name", u0), ("start", u1), ("band", w0), ("rule", m0)] := by
  first
    | exact ⟨_, _, _, _, _, _, rfl, rfl, rfl⟩
    | with_unfolding_all exact ⟨_, _, _, _, _, _, rfl, rfl, rfl⟩
theorem kw2 (D : Addr) (doc pm : Value) (an : Option Addr) (cdv ct u0 u1 m0 m1 : Value) : KwChain D [("band", m0), ("rule", m1)] (PySem.bindArgs (PySem.W.fnOf "listed" "listed" (defArgs s_listed) (defBody s_listed) (defScope s_listed) .none (.ref D) doc pm an cdv ct) ⟨[u0, u1], []⟩) [("name", u0), ("start", u1), ("band", m0), ("rule", m1)] := by
  first
    | exact ⟨_, _, _, _, _, _, rfl, rfl, _, _, _, _, _, _, rfl, rfl, rfl⟩
    | with_unfolding_all exact ⟨_, _, _, _, _, _, rfl, rfl, _, _, _, _, _, _, rfl, rfl, rfl⟩
theorem vals_rev : ∀ {vs : List V} {us : List Value}, Vals vs us → Vals vs.reverse us.reverse
  | _, _, .nil => .nil
  | _, _, .cons r t => by
    rw [List.reverse_cons, List.reverse_cons]
    exact (vals_rev t).append (.cons r .nil)
/-! ### the law -/
def inn0 : Hp → V → V → Prop := fun _ _ _ => False
def inn1 : Hp → V → V → Prop := SamI inn0
def inn2 : Hp → V → V → Prop := SamI inn1
theorem SamI.stay {inner : Hp → V → V → Prop} (st : ∀ H H' v z, Same H H' → inner H v z → inner H' v z) (H H' : Hp) (x y : V) (s : Same H H') (h : SamI inner H x y) : SamI inner H' x y := by
  rcases h with ⟨e, sc⟩ | ⟨a, b, xs, ys, e1, e2, hab, hl, hz, hin⟩
  · exact .inl ⟨e, sc⟩
  · refine .inr ⟨a, b, xs, ys, e1, e2, ?_, hl, hz, fun i v z q1 q2 => st _ _ _ _ s (hin i v z q1 q2)⟩
    rcases hab with ⟨ea, eb⟩ | ⟨ea, eb⟩
    · exact .inl ⟨s _ _ ea, s _ _ eb⟩
    · exact .inr ⟨s _ _ ea, s _ _ eb⟩
theorem ok_same3 {f : Addr} {fd : FuncData} (F : Fun K "_law_same" "_law_same" s_law_same f fd) (T : Txt mg) (m : mg "_law_same" = some (.ref f)) (kp : PySem.W.keepIn K (.ref f) = true) (b : Binds K fd ["this", "that"] []) :
    FnOk P w K mg base CX0 6 f fd ["this", "that"] (spSame (SamI inn2)) := by
  have st0 : ∀ H H' v z, Same H H' → inn0 H v z → inn0 H' v z := fun _ _ _ _ _ h => h
  have st1 : ∀ H H' v z, Same H H' → inn1 H v z → inn1 H' v z := fun H H' v z s h => SamI.stay st0 H H' v z s h
  have st2 : ∀ H H' v z, Same H H' → inn2 H v z → inn2 H' v z := fun H H' v z s h => SamI.stay st1 H H' v z s h
  have C0 : Cal P w K mg base 0 "_law_same" ["this", "that"] (spSame inn0) := ⟨f, fd, ⟨fun vs H Q E h => by obtain ⟨x, y, _, z, _⟩ := h; exact z.elim, fun A outer s H args us vs Q E _ _ _ _ h => by obtain ⟨x, y, _, z, _⟩ := h; exact z.elim⟩, m, kp, b⟩
  exact ok_same F T st2 ⟨f, fd, ok_same F T st1 ⟨f, fd, ok_same F T st0 C0, m, kp, b⟩, m, kp, b⟩
theorem firstW_word : ∀ {ws : List (Str × Bool)} {s : Str}, firstW ws = .str s → ∃ b, (s, b) ∈ ws
  | (x, b) :: r, s, h => by
    cases b with
    | true =>
      obtain ⟨b', hb⟩ := firstW_word (ws := r) h
      exact ⟨b', List.mem_cons_of_mem _ hb⟩
    | false =>
      have e : x = s := by injection h
      exact ⟨false, by rw [e]; exact List.mem_cons_self⟩
theorem word_ok {x1 x2 x3 : V} {d3 d4 : PyData} {s : Str} (h : toldW x1 x2 x3 d3 d4 = .str s) : PyData.strOk s = true := by
  obtain ⟨b, hb⟩ := firstW_word h
  simp only [List.mem_cons, List.not_mem_nil, or_false, Prod.mk.injEq] at hb
  rcases hb with ⟨e, _⟩ | ⟨e, _⟩ | ⟨e, _⟩ | ⟨e, _⟩ <;> rw [e] <;> decide +kernel
theorem firstW_all : ∀ {ws : List (Str × Bool)}, firstW ws = .non → ∀ q ∈ ws, q.2 = true
  | (x, b) :: r, h, q, hq => by
    cases b with
    | true =>
      rcases List.mem_cons.mp hq with e | hq
      · rw [e]
      · exact firstW_all (ws := r) h q hq
    | false => cases h
theorem good_scal {H : Hp} {x1 x2 x3 x4 : V} {d1 d2 d3 d4 : PyData} (o1 : Od H x1 d1) (o2 : Od H x2 d2) (o3 : Od H x3 d3) (o4 : Od H x4 d4) (h : toldW x1 x2 x3 d3 d4 = .non) : Scal x1 ∧ Scal x2 ∧ Scal (bandOf x3 d3) ∧ Scal (ruleOf x4 d4) := by
  have all := firstW_all h
  have h1 : nameV x1 = true := all ("name", nameV x1) (by simp)
  have h2 : rangeV 1 1000000 x2 = true := all ("start", rangeV 1 1000000 x2) (by simp)
  have h3 : (isNon (bandOf x3 d3) || rangeV 0 1000000 (bandOf x3 d3)) = true := all ("band", isNon (bandOf x3 d3) || rangeV 0 1000000 (bandOf x3 d3)) (by simp)
  have h4 : ruleB (ruleD d4) = true := all ("rule", ruleB (ruleD d4)) (by simp)
  refine ⟨?_, ?_, ?_, ?_⟩
  · cases o1 with
    | str h h2 => exact .str h2
    | _ => cases h1
  · cases o2 with
    | int h => exact .int _
    | _ => cases h2
  · revert h3
    unfold bandOf
    split
    · exact fun _ => .non
    · intro h3
      cases o3 with
      | non => exact .non
      | int h => exact .int _
      | _ => cases h3
  · unfold ruleOf
    split
    · exact .str (by decide +kernel)
    · rw [rule_same o4, Bool.and_eq_true] at h4
      cases o4 with
      | str h h2 => exact .str h2
      | _ => exact absurd h4.1 Bool.false_ne_true
theorem answers_same {H : Hp} {t1 t2 : Addr} {x1 x2 x3 x4 : V} {d1 d2 d3 d4 : PyData} (o1 : Od H x1 d1) (o2 : Od H x2 d2) (o3 : Od H x3 d3) (o4 : Od H x4 d4) (a1 : Answer H t1 x1 x2 x3 x4 d3 d4) (a2 : Answer H t2 x1 x2 x3 x4 d3 d4) : SamI inn2 H (.ref t1) (.ref t2) := by
  rcases a1 with ⟨g1, u1, e1, f1⟩ | ⟨s1, g1, e1⟩
  · rcases a2 with ⟨g2, u2, e2, f2⟩ | ⟨s2, g2, e2⟩
    · obtain ⟨c1, c2, c3, c4⟩ := good_scal o1 o2 o3 o4 g1
      refine .inr ⟨t1, t2, _, _, rfl, rfl, .inr ⟨e1, e2⟩, rfl, (by show 2 ≤ 100000; decide), fun i v z q1 q2 => ?_⟩
      match i, q1, q2 with
      | 0, q1, q2 =>
        cases q1
        cases q2
        exact .inl ⟨rfl, .str (by decide +kernel)⟩
      | 1, q1, q2 =>
        cases q1
        cases q2
        refine .inr ⟨u1, u2, _, _, rfl, rfl, .inr ⟨f1, f2⟩, rfl, (by show 4 ≤ 100000; decide), fun i v z q1 q2 => ?_⟩
        match i, q1, q2 with
        | 0, q1, q2 =>
          cases q1
          cases q2
          exact .inl ⟨rfl, c1⟩
        | 1, q1, q2 =>
          cases q1
          cases q2
          exact .inl ⟨rfl, c2⟩
        | 2, q1, q2 =>
          cases q1
          cases q2
          exact .inl ⟨rfl, c3⟩
        | 3, q1, q2 =>
          cases q1
          cases q2
          exact .inl ⟨rfl, c4⟩
        | i + 4, q1, q2 => simp at q1
      | i + 2, q1, q2 => simp at q1
    · rw [g1] at g2
      cases g2
  · rcases a2 with ⟨g2, u2, e2, f2⟩ | ⟨s2, g2, e2⟩
    · rw [g1] at g2
      cases g2
    · rw [g1] at g2
      cases g2
      refine .inr ⟨t1, t2, _, _, rfl, rfl, .inr ⟨e1, e2⟩, rfl, (by show 2 ≤ 100000; decide), fun i v z q1 q2 => ?_⟩
      match i, q1, q2 with
      | 0, q1, q2 =>
        cases q1
        cases q2
        exact .inl ⟨rfl, .str (by decide +kernel)⟩
      | 1, q1, q2 =>
        cases q1
        cases q2
        exact .inl ⟨rfl, .str (word_ok g1)⟩
      | i + 2, q1, q2 => simp at q1
theorem Answer.same {H H' : Hp} {t : Addr} {x1 x2 x3 x4 : V} {d3 d4 : PyData} (a : Answer H t x1 x2 x3 x4 d3 d4) (s : Same H H') : Answer H' t x1 x2 x3 x4 d3 d4 := by
  rcases a with ⟨g, u, e, f⟩ | ⟨z, g, e⟩
  · exact .inl ⟨g, u, s _ _ e, s _ _ f⟩
  · exact .inr ⟨z, g, s _ _ e⟩
/-- the four parts in their list -/
def Four (h : Hp) (x : V) : Prop := ∃ (l : Addr) (x1 x2 x3 x4 : V) (d1 d2 d3 d4 : PyData), x = .ref l ∧ h l = some (.lst [x1, x2, x3, x4]) ∧ Od h x1 d1 ∧ Od h x2 d2 ∧ Od h x3 d3 ∧ Od h x4 d4
theorem Four.same {h h' : Hp} {x : V} (f : Four h x) (s : Same h h') : Four h' x := by
  obtain ⟨l, x1, x2, x3, x4, d1, d2, d3, d4, e, hl, o1, o2, o3, o4⟩ := f
  exact ⟨l, x1, x2, x3, x4, d1, d2, d3, d4, e, s _ _ hl, o1.same s, o2.same s, o3.same s, o4.same s⟩
theorem Four.move {p : Addr} {h h' : Hp} {n : Int} {x : V} (f : Four h x) (k : Keep p h h') (u : Pu h p n) : Four h' x := by
  obtain ⟨l, x1, x2, x3, x4, d1, d2, d3, d4, e, hl, o1, o2, o3, o4⟩ := f
  refine ⟨l, x1, x2, x3, x4, d1, d2, d3, d4, e, k _ _ (fun z => ?_) hl, o1.move k u, o2.move k u, o3.move k u, o4.move k u⟩
  obtain ⟨_, _, _, e0, _⟩ := u
  rw [z, e0] at hl
  cases hl
/-- another list of four or more changes nothing of it -/
theorem Od.set {H : Hp} {l : Addr} {y1 y2 y3 y4 : V} {o' : HO} {x : V} {d : PyData} (o : Od H x d) (hl : H l = some (.lst [y1, y2, y3, y4])) : Od (upd H l o') x d := by
  have ne : ∀ {b : Addr} {u : HO}, H b = some u → u ≠ .lst [y1, y2, y3, y4] → b ≠ l := fun e no z => by
    rw [z, hl] at e
    exact no (Option.some.inj e).symm
  cases o with
  | non => exact .non
  | bl b => exact .bl b
  | int h => exact .int h
  | str h h2 => exact .str h h2
  | l0 e => exact .l0 (by rw [upd_ne (ne e (fun z => by cases z))]; exact e)
  | t0 e => exact .t0 (by rw [upd_ne (ne e (fun z => by cases z))]; exact e)
  | l1 e h h2 => exact .l1 (by rw [upd_ne (ne e (fun z => by cases z))]; exact e) h h2
  | t1 e h h2 => exact .t1 (by rw [upd_ne (ne e (fun z => by cases z))]; exact e) h h2
  | l2 e e2 h h2 => exact .l2 (by rw [upd_ne (ne e (fun z => by cases z))]; exact e) (by rw [upd_ne (ne e2 (fun z => by cases z))]; exact e2) h h2
theorem Four.set {h : Hp} {l : Addr} {y1 y2 y3 y4 : V} {o' : HO} {x : V} (f : Four h x) (hl : h l = some (.lst [y1, y2, y3, y4])) (ne : x ≠ .ref l) : Four (upd h l o') x := by
  obtain ⟨l', x1, x2, x3, x4, d1, d2, d3, d4, e, hl', o1, o2, o3, o4⟩ := f
  exact ⟨l', x1, x2, x3, x4, d1, d2, d3, d4, e, by rw [upd_ne (fun z => ne (by rw [e, z]))]; exact hl', o1.set hl, o2.set hl, o3.set hl, o4.set hl⟩
theorem Od.apart {H : Hp} {t : Addr} {xs : List V} {x : V} {d : PyData} (o : Od H x d) (ht : H t = some (.lst xs)) (h1 : 1 ≤ xs.length) (fx : ∀ x ∈ xs, Four H x) : ∀ (o' : HO), Od (upd H t o') x d := by
  intro o'
  have ne : ∀ {b : Addr} {u : HO}, H b = some u → u ≠ .lst xs → b ≠ t := fun e no z => by
    rw [z, ht] at e
    exact no (Option.some.inj e).symm
  have no0 : HO.lst [] ≠ .lst xs := fun z => by
    have : [] = xs := by injection z
    rw [← this] at h1
    exact absurd h1 (by decide)
  have no1 : ∀ {s : Str}, HO.lst [.str s] ≠ .lst xs := fun {s} z => by
    have e : [V.str s] = xs := by injection z
    obtain ⟨_, _, _, _, _, _, _, _, _, q, _⟩ := fx (.str s) (by rw [← e]; simp)
    cases q
  cases o with
  | non => exact .non
  | bl b => exact .bl b
  | int h => exact .int h
  | str h h2 => exact .str h h2
  | l0 e => exact .l0 (by rw [upd_ne (ne e no0)]; exact e)
  | t0 e => exact .t0 (by rw [upd_ne (ne e (fun z => by cases z))]; exact e)
  | l1 e h h2 => exact .l1 (by rw [upd_ne (ne e no1)]; exact e) h h2
  | t1 e h h2 => exact .t1 (by rw [upd_ne (ne e (fun z => by cases z))]; exact e) h h2
  | @l2 a b s e e2 h h2 =>
    have no2 : HO.lst [.ref b] ≠ .lst xs := fun z => by
      have e' : [V.ref b] = xs := by injection z
      obtain ⟨_, _, _, _, _, _, _, _, _, q, hq, _⟩ := fx (.ref b) (by rw [← e']; simp)
      cases q
      rw [e2] at hq
      cases hq
    exact .l2 (by rw [upd_ne (ne e no2)]; exact e) (by rw [upd_ne (ne e2 no1)]; exact e2) h h2
theorem Od.grow {H : Hp} {t : Addr} {xs : List V} {x : V} {d : PyData} {o' : HO} (o : Od H x d) (ht : H t = some (.lst xs)) (h1 : 1 ≤ xs.length) (fx : ∀ x ∈ xs, Four H x) : Od (upd H t o') x d := o.apart ht h1 fx o'
theorem Four.grow {H : Hp} {t : Addr} {xs : List V} {x : V} {o' : HO} (f : Four H x) (ht : H t = some (.lst xs)) (h1 : 1 ≤ xs.length) (fx : ∀ x ∈ xs, Four H x) : Four (upd H t o') x := by
  obtain ⟨l, x1, x2, x3, x4, d1, d2, d3, d4, e, hl, o1, o2, o3, o4⟩ := f
  have ne : l ≠ t := fun z => by
    rw [z, ht] at hl
    have e' : xs = [x1, x2, x3, x4] := by injection (Option.some.inj hl)
    obtain ⟨b, _, _, _, _, _, _, _, _, q, hq, _⟩ := fx x1 (by rw [e']; simp)
    subst q
    cases o1 with
    | l0 e => rw [e] at hq; cases hq
    | t0 e => rw [e] at hq; cases hq
    | l1 e h h2 => rw [e] at hq; cases hq
    | t1 e h h2 => rw [e] at hq; cases hq
    | l2 e e2 h h2 => rw [e] at hq; cases hq
  exact ⟨l, x1, x2, x3, x4, d1, d2, d3, d4, e, by rw [upd_ne ne]; exact hl, o1.grow ht h1 fx, o2.grow ht h1 fx, o3.grow ht h1 fx, o4.grow ht h1 fx⟩
def spLaw (K : PySem.W.Frag) : Sp := fun vs H Q _ => ∃ (a : Addr) (ns : List Int), vs = [.ref a] ∧ SqL K H a (ns.map V.int) ∧ ns.length ≤ 63 ∧ ∀ H', Q (.bl true) H'
abbrev s_law : Stmt := topS 29
theorem sc_law : FnScope ["script", "k", "purse", "word", "begin", "width", "way", "things", "turn", "parts", "more", "kept"] ["script"] (defScope s_law) := ⟨rfl, rfl, rfl, by decide +kernel, rfl, by decide +kernel, by decide +kernel⟩
theorem ok_law {f : Addr} {fd : FuncData} (F : Fun K "law" "law" s_law f fd) (T : Txt mg) (c_purse : Cal P w K mg base 1 "_law_purse" ["script", "k"] (spPurse K)) (c_coin : Cal P w K mg base 1 "_law_coin" ["purse", "many"] spCoin)
    (c_names : Cal P w K mg base 2 "_law_names" ["purse", "many"] spNames) (c_odd : Cal P w K mg base 2 "_law_odd" ["purse", "word"] spOdd) (c_told : Cal P w K mg base 6 "_law_told" ["parts"] spTold) (c_due : Cal P w K mg base 2 "_law_due" ["parts"] spTold)
    (c_same : Cal P w K mg base 6 "_law_same" ["this", "that"] (spSame (SamI inn2))) : FnAt P w K mg base CX0 callerA f fd ["script"] (spLaw K) := by
  refine Fun.at_ F (k := 7) ⟨rfl, by decide, by decide⟩ sc_law (fun vs H Q E h => ?_) (fun cdv outer s H vs Q E hr h => ?_)
  · obtain ⟨a, ns, rfl, _⟩ := h
    rfl
  · obtain ⟨a, ns, rfl, hS, hlen, k⟩ := h
    obtain ⟨f_purse, fd_purse, G_purse, m_purse, k_purse, b_purse⟩ := c_purse
    obtain ⟨f_coin, fd_coin, G_coin, m_coin, k_coin, b_coin⟩ := c_coin
    obtain ⟨f_names, fd_names, G_names, m_names, k_names, b_names⟩ := c_names
    obtain ⟨f_odd, fd_odd, G_odd, m_odd, k_odd, b_odd⟩ := c_odd
    obtain ⟨f_told, fd_told, G_told, m_told, k_told, b_told⟩ := c_told
    obtain ⟨f_due, fd_due, G_due, m_due, k_due, b_due⟩ := c_due
    obtain ⟨f_same, fd_same, G_same, m_same, k_same, b_same⟩ := c_same
    refine ⟨_, (pss_cons (ps_for PassesOwn.never rfl (pi_range1 rfl T.b_range (pa_cons (pe_callB (call_max2 rfl) (by rfl) T.b_max (by decide +kernel) (pa_cons pe_int (pa_cons (pe_callB (call_min2 rfl) (by rfl) T.b_min (by decide +kernel) (pa_cons pe_int (pa_cons (pe_callB call_len_seq (by rfl) T.b_len PySem.boot_len (pa_cons (pv 0) pa_nil)) pa_nil))) pa_nil))) pa_nil)) (pg_name (i := 1) sc_law.nd rfl (Or.inl rfl))
           (pss_cons (ps_set (i := 2) sc_law.nd rfl (Or.inl rfl) (pe_call G_purse (hr.mono (by decide)) rfl m_purse k_purse b_purse .nil pass0 (pa_cons (pv 0) (pa_cons (pv 1) pa_nil))))
            (C8.pss_cut (ps_set (i := 3) sc_law.nd rfl (Or.inl rfl) (pe_ix (r := rIxL K) ix_list (pe_call G_names (hr.mono (by decide)) rfl m_names k_names b_names .nil pass0 (pa_cons (pv 2) (pa_cons pe_int pa_nil))) pe_int (fun _ _ => rfl)))
            (C8.pss_cut (ps_set (i := 4) sc_law.nd rfl (Or.inl rfl) (pe_ix (r := rIxL K) ix_list (pe_lst (pa_cons pe_int (pa_cons (pe_op op_pow pe_int pe_int) (pa_cons (pe_op op_add pe_int (pe_call G_coin (hr.mono (by decide)) rfl m_coin k_coin b_coin .nil pass0 (pa_cons (pv 2) (pa_cons (pe_op op_pow pe_int pe_int) pa_nil)))) pa_nil)))) (pe_call G_coin (hr.mono (by decide)) rfl m_coin k_coin b_coin .nil pass0 (pa_cons (pv 2) (pa_cons pe_int pa_nil))) (fun _ _ => rfl)))
            (C8.pss_cut (ps_set (i := 5) sc_law.nd rfl (Or.inl rfl) (pe_ix (r := rIxL K) ix_list (pe_lst (pa_cons pe_non (pa_cons pe_int (pa_cons (pe_op op_pow pe_int pe_int) (pa_cons (pe_call G_coin (hr.mono (by decide)) rfl m_coin k_coin b_coin .nil pass0 (pa_cons (pv 2) (pa_cons (pe_op op_add (pe_op op_pow pe_int pe_int) pe_int) pa_nil))) (pa_cons pe_str pa_nil)))))) (pe_call G_coin (hr.mono (by decide)) rfl m_coin k_coin b_coin .nil pass0 (pa_cons (pv 2) (pa_cons pe_int pa_nil))) (fun _ _ => rfl)))
            (C8.pss_cut (ps_set (i := 6) sc_law.nd rfl (Or.inl rfl) (pe_ix (r := rIxL K) ix_list (pe_lst (pa_cons pe_str (pa_cons pe_str (pa_cons pe_str pa_nil)))) (pe_call G_coin (hr.mono (by decide)) rfl m_coin k_coin b_coin .nil pass0 (pa_cons (pv 2) (pa_cons pe_int pa_nil))) (fun _ _ => rfl)))
            (C8.pss_cut (ps_set (i := 7) sc_law.nd rfl (Or.inl rfl) (pe_lst (pa_cons (pe_lst (pa_cons (pv 3) (pa_cons (pv 4) (pa_cons (pv 5) (pa_cons (pv 6) pa_nil))))) pa_nil)))
            (C8.pss_cut (ps_for PassesOwn.never rfl (pi_range1 rfl T.b_range (pa_cons pe_int pa_nil)) (pg_name (i := 8) sc_law.nd rfl (Or.inl rfl))
             (pss_cons (ps_set (i := 9) sc_law.nd rfl (Or.inl rfl) (pe_lst (pa_cons (pv 3) (pa_cons (pv 4) (pa_cons (pv 5) (pa_cons (pv 6) pa_nil))))))
              (C8.pss_cut (ps_for PassesOwn.never rfl (pi_range1 rfl T.b_range (pa_cons (pe_op op_add pe_int (pe_op op_mod (pv 8) pe_int)) pa_nil)) (pg_name (i := 10) sc_law.nd rfl (Or.inl rfl))
               (pss_one (ps_asg (pe_call G_odd (hr.mono (by decide)) rfl m_odd k_odd b_odd .nil pass0 (pa_cons (pv 2) (pa_cons (pv 3) pa_nil))) (pg_sub (pv 9) (pe_call G_coin (hr.mono (by decide)) rfl m_coin k_coin b_coin .nil pass0 (pa_cons (pv 2) (pa_cons pe_int pa_nil))) set_list))))
              (pss_one (ps_expr (pe_bm PySem.F.plainAttrs_list PySem.F.slot_list_append PySem.F.type_list_append mt_append (pv 7) (pa_cons (pv 9) pa_nil)))))))
            (pss_one (ps_for PassesOwn.never rfl (pi_list (pv 7)) (pg_name (i := 9) sc_law.nd rfl (Or.inl rfl))
             (pss_cons (ps_set (i := 11) sc_law.nd rfl (Or.inl rfl) (pe_callB (call_reprD rfl hr.units) (by rfl) T.b_repr (by decide +kernel) (pa_cons (pv 9) pa_nil)))
              (pss_one (ps_if (PW.pt (pw_or (pt_not (pt_val (pe_call G_same (hr.mono (by decide)) rfl m_same k_same b_same .nil pass0 (pa_cons (pe_call G_told (hr.mono (by decide)) rfl m_told k_told b_told .nil pass0 (pa_cons (pv 9) pa_nil)) (pa_cons (pe_call G_due (hr.mono (by decide)) rfl m_due k_due b_due .nil pass0 (pa_cons (pv 9) pa_nil)) pa_nil))))) (pw_or1 (pt_cmpR op_ne (pe_callB (call_reprD rfl hr.units) (by rfl) T.b_repr (by decide +kernel) (pa_cons (pv 9) pa_nil)) (pv 11) (nomark _))))) (pss_one (ps_ret pe_bl)) pss_nil)))))))))))))
          (pss_one (ps_ret pe_bl))), ?_⟩
    have hl' : ((ns.map V.int).length : Int) = (ns.length : Int) := by rw [List.length_map]
    refine ⟨_, rfl, _, _, rfl, .inl hS, _, _, rfl, _, _, rfl, _, rfl, ?lo, ?hi, ?_⟩
    case lo => rw [hl']; split <;> split <;> omega
    case hi => rw [hl']; split <;> split <;> omega
    rw [hl']
    refine for_range (lo := 0) (fun i σ H' => ∃ v1 v2 v3 v4 v5 v6 v7 v8 v9 v10 v11, σ = [some (.ref a), v1, v2, v3, v4, v5, v6, v7, v8, v9, v10, v11] ∧ Same H H') ⟨_, _, _, _, _, _, _, _, _, _, _, rfl, Same.refl H⟩ ?_ ?_
    · rintro i σ H1 hi ⟨v1, v2, v3, v4, v5, v6, v7, v8, v9, v10, v11, rfl, s1⟩
      have hi8 : (0 : Int) + (i : Int) < 64 := by
        have h3 := hi
        revert h3
        split <;> split <;> intro h3 <;> omega
      refine ⟨_, rfl, _, rfl, a, ns, _, rfl, s1.seq hS, hlen, by omega, hi8, fun p H2 np s2 u2 => ?_⟩
      have B2 : Dr p H1 H2 0 := ⟨Keep.same s2, u2⟩
      refine ⟨fun σ h => ∃ word : Str, σ = [some (.ref a), some (.int (0 + (i : Int))), some (.ref p), some (.str word), v4, v5, v6, v7, v8, v9, v10, v11] ∧ NameS word ∧ Dr p H1 h 9, ?_, ?_⟩
      · refine ⟨_, rfl, p, 1, 0, rfl, u2, by decide, by decide, by decide, fun q ws H3 nq hl hN hq u3 k3 => ?_⟩
        match ws, hl, hN, hq with
        | [x], _, hN, hq => exact ⟨q, _, _, _, rfl, rfl, SqL.of hq, rfl, x, rfl, hN x (by simp), (B2.coin k3 u3).mono (by omega)⟩
        | [], hl, _, _ => exact absurd hl (by decide)
        | _ :: _ :: _, hl, _, _ => exact absurd hl (by simp only [List.length_cons]; omega)
      rintro σ H3 ⟨word, rfl, nw, B3⟩
      refine ⟨fun σ h => ∃ b : Int, σ = [some (.ref a), some (.int (0 + (i : Int))), some (.ref p), some (.str word), some (.int b), v5, v6, v7, v8, v9, v10, v11] ∧ b.natAbs < 2 ^ 256 ∧ Dr p H1 h 11, ?_, ?_⟩
      · refine ⟨_, _, rfl, rfl, ⟨by decide, by decide, by decide⟩, _, rfl, _, _, rfl, rfl, ⟨by decide, by decide, by decide⟩, p, _, _, rfl, B3.pu, by decide, by decide, by decide, fun r1 H4 r1a r1b w1 k1 => ?_⟩
        have B4 := B3.coin k1 w1
        refine ⟨_, _, rfl, rfl, (by show 3 ≤ sizeLine; decide), fun u nu => ?_⟩
        have B5 := B4.new nu (o := .lst [.int 1, .int (10 ^ (6 : Int).toNat), .int (1 + r1)])
        refine ⟨_, rfl, p, _, _, rfl, B5.pu, by decide, by decide, by decide, fun r2 H6 r2a r2b w2 k2 => ?_⟩
        have hu := k2 _ _ (B4.pu.ne nu) (upd_same (o := .lst [.int 1, .int (10 ^ (6 : Int).toNat), .int (1 + r1)]))
        have r1c : r1 < 1000000 := r1b
        obtain ⟨v, hv, hb⟩ : ∃ v : Int, atI [V.int 1, .int (10 ^ (6 : Int).toNat), .int (1 + r1)] r2 = some (.int v) ∧ v.natAbs < 2 ^ 256 := by
          have h3 : r2 = 0 ∨ r2 = 1 ∨ r2 = 2 := by omega
          rcases h3 with h3 | h3 | h3 <;> subst h3
          · exact ⟨_, rfl, by decide⟩
          · exact ⟨_, rfl, by decide⟩
          · exact ⟨_, rfl, by omega⟩
        exact ⟨u, _, _, _, rfl, rfl, SqL.of hu, hv, v, rfl, hb, (B5.coin k2 w2).mono (by omega)⟩
      rintro σ H4 ⟨b, rfl, hb, B4⟩
      refine ⟨fun σ h => ∃ (x : V) (d : PyData), σ = [some (.ref a), some (.int (0 + (i : Int))), some (.ref p), some (.str word), some (.int b), some x, v6, v7, v8, v9, v10, v11] ∧ Od h x d ∧ Dr p H1 h 13, ?_, ?_⟩
      · refine ⟨_, _, rfl, rfl, ⟨by decide, by decide, by decide⟩, _, rfl, _, _, rfl, rfl, ⟨by decide, by decide, by decide⟩, _, _, rfl, rfl, p, _, _, rfl, B4.pu, by decide, by decide, by decide, fun r1 H5 r1a r1b w1 k1 => ?_⟩
        have B5 := B4.coin k1 w1
        refine ⟨(by show 5 ≤ sizeLine; decide), fun u nu => ?_⟩
        have B6 := B5.new nu (o := .lst [.non, .int 0, .int (10 ^ (6 : Int).toNat), .int r1, .str "out"])
        refine ⟨_, rfl, p, _, _, rfl, B6.pu, by decide, by decide, by decide, fun r2 H6 r2a r2b w2 k2 => ?_⟩
        have hu := k2 _ _ (B5.pu.ne nu) (upd_same (o := .lst [.non, .int 0, .int (10 ^ (6 : Int).toNat), .int r1, .str "out"]))
        have r1c : r1 < 1000001 := r1b
        obtain ⟨v, d, hv, od⟩ : ∃ (v : V) (d : PyData), atI [V.non, .int 0, .int (10 ^ (6 : Int).toNat), .int r1, .str "out"] r2 = some v ∧ Od H6 v d := by
          have h3 : r2 = 0 ∨ r2 = 1 ∨ r2 = 2 ∨ r2 = 3 ∨ r2 = 4 := by omega
          rcases h3 with h3 | h3 | h3 | h3 | h3 <;> subst h3
          · exact ⟨_, _, rfl, .non⟩
          · exact ⟨_, _, rfl, .int (by decide)⟩
          · exact ⟨_, _, rfl, .int (by decide)⟩
          · exact ⟨_, _, rfl, .int (by omega)⟩
          · exact ⟨_, _, rfl, .str (by decide +kernel) (by decide +kernel)⟩
        exact ⟨u, _, _, _, rfl, rfl, SqL.of hu, hv, v, d, rfl, od, (B6.coin k2 w2).mono (by omega)⟩
      rintro σ H5 ⟨xw, dw, rfl, ow, B5⟩
      refine ⟨fun σ h => ∃ y : Str, σ = [some (.ref a), some (.int (0 + (i : Int))), some (.ref p), some (.str word), some (.int b), some xw, some (.str y), v7, v8, v9, v10, v11] ∧ Okt y 8 ∧ Od h xw dw ∧ Dr p H1 h 14, ?_, ?_⟩
      · refine ⟨(by show 3 ≤ sizeLine; decide), fun u nu => ?_⟩
        have B6 := B5.new nu (o := .lst [.str "rank", .str "share", .str "out"])
        refine ⟨_, rfl, p, _, _, rfl, B6.pu, by decide, by decide, by decide, fun r2 H6 r2a r2b w2 k2 => ?_⟩
        have hu := k2 _ _ (B5.pu.ne nu) (upd_same (o := .lst [.str "rank", .str "share", .str "out"]))
        obtain ⟨v, hv, od⟩ : ∃ v : Str, atI [V.str "rank", .str "share", .str "out"] r2 = some (.str v) ∧ Okt v 8 := by
          have h3 : r2 = 0 ∨ r2 = 1 ∨ r2 = 2 := by omega
          rcases h3 with h3 | h3 | h3 <;> subst h3 <;> exact ⟨_, rfl, lit_ok (by decide +kernel)⟩
        exact ⟨u, _, _, _, rfl, rfl, SqL.of hu, hv, v, rfl, od, (ow.same (Same.new nu)).move k2 B6.pu, (B6.coin k2 w2).mono (by omega)⟩
      rintro σ H6 ⟨y, rfl, oy, ow, B6⟩
      have Ow := Okt.name nw
      refine ⟨fun σ h => ∃ (t : Addr) (xs : List V), σ = [some (.ref a), some (.int (0 + (i : Int))), some (.ref p), some (.str word), some (.int b), some xw, some (.str y), some (.ref t), v8, v9, v10, v11] ∧ h t = some (.lst xs) ∧ t ≠ p ∧ xs.length = 1 ∧ (∀ x ∈ xs, Four h x) ∧ Od h xw dw ∧ Dr p H1 h 14 ∧ ∀ o, H6 t ≠ some o, ?_, ?_⟩
      · refine ⟨_, rfl, _, rfl, _, rfl, _, rfl, (by show 4 ≤ sizeLine; decide), fun l nl => ⟨(by show 1 ≤ sizeLine; decide), fun t nt => ?_⟩⟩
        have g1 := Same.new nl (o := .lst [.str word, .int b, xw, .str y])
        have g2 := Same.new nt (o := .lst [.ref l])
        have B7 := (B6.new nl (o := .lst [.str word, .int b, xw, .str y])).new nt (o := .lst [.ref l])
        refine ⟨t, _, rfl, upd_same, ((B6.new nl (o := .lst [.str word, .int b, xw, .str y])).pu).ne nt, rfl, fun x hx => ?_, ow.same (g1.trans g2), B7, fun o e => by have e2 := g1 _ _ e; rw [nt] at e2; cases e2⟩
        rw [List.mem_singleton.mp hx]
        exact ⟨l, _, _, _, _, _, _, _, _, rfl, g2 _ _ upd_same, Ow.od (by decide), .int hb, ow.same (g1.trans g2), oy.od (by decide)⟩
      rintro σ H7 ⟨t, xs7, rfl, ht7, tp, hx7, f7, ow7, B7, tnew⟩
      refine ⟨fun σ h => ∃ (xs : List V) (v8 v9 v10 v11 : Option V), σ = [some (.ref a), some (.int (0 + (i : Int))), some (.ref p), some (.str word), some (.int b), some xw, some (.str y), some (.ref t), v8, v9, v10, v11] ∧ h t = some (.lst xs) ∧ xs.length ≤ 100 ∧ (∀ x ∈ xs, Four h x) ∧ Dr p H1 h 400, ?_, ?_⟩
      · refine ⟨_, rfl, by decide, by decide, ?_⟩
        refine for_range (lo := 0) (fun j σ h => ∃ (xs : List V) (v8 v9 v10 v11 : Option V), σ = [some (.ref a), some (.int (0 + (i : Int))), some (.ref p), some (.str word), some (.int b), some xw, some (.str y), some (.ref t), v8, v9, v10, v11] ∧ h t = some (.lst xs) ∧ xs.length = 1 + j ∧ (∀ x ∈ xs, Four h x) ∧ Od h xw dw ∧ Dr p H1 h (14 + 20 * j)) ⟨xs7, _, _, _, _, rfl, ht7, hx7, f7, ow7, B7.mono (by omega)⟩ ?_ ?_
        · rintro j σ h hj ⟨xs, w8, w9, w10, w11, rfl, ht, hx, fx, owx, Bx⟩
          have hj12 : (j : Int) < 12 := by
            have : j < 12 := hj
            omega
          refine ⟨_, rfl, _, rfl, _, rfl, _, rfl, (by show 4 ≤ sizeLine; decide), fun l nl => ?_⟩
          have g1 := Same.new nl (o := .lst [.str word, .int b, xw, .str y])
          have apart : ∀ x ∈ xs, x ≠ .ref l := fun x hx e => by
            obtain ⟨l', _, _, _, _, _, _, _, _, e', hl', _⟩ := fx x hx
            rw [e] at e'
            cases e'
            rw [nl] at hl'
            cases hl'
          have lp : l ≠ p := Bx.pu.ne nl
          have lt : l ≠ t := fun e => by
            rw [e, ht] at nl
            cases nl
          refine ⟨fun σ h => ∃ (v10 : Option V) (y1 y2 y3 y4 : V) (e1 e2 e3 e4 : PyData), σ = [some (.ref a), some (.int (0 + (i : Int))), some (.ref p), some (.str word), some (.int b), some xw, some (.str y), some (.ref t), some (.int (0 + (j : Int))), some (.ref l), v10, w11] ∧ h l = some (.lst [y1, y2, y3, y4]) ∧ Od h y1 e1 ∧ Od h y2 e2 ∧ Od h y3 e3 ∧ Od h y4 e4 ∧ h t = some (.lst xs) ∧ (∀ x ∈ xs, Four h x) ∧ Od h xw dw ∧ Dr p H1 h (14 + 20 * j + 16), ?_, ?_⟩
          · refine ⟨_, rfl, _, _, rfl, rfl, (by show (0 : Int) < 2; decide), _, _, rfl, rfl, _, rfl, by omega, by omega, ?_⟩
            refine for_range (lo := 0) (fun m σ h => ∃ (v10 : Option V) (y1 y2 y3 y4 : V) (e1 e2 e3 e4 : PyData), σ = [some (.ref a), some (.int (0 + (i : Int))), some (.ref p), some (.str word), some (.int b), some xw, some (.str y), some (.ref t), some (.int (0 + (j : Int))), some (.ref l), v10, w11] ∧ h l = some (.lst [y1, y2, y3, y4]) ∧ Od h y1 e1 ∧ Od h y2 e2 ∧ Od h y3 e3 ∧ Od h y4 e4 ∧ h t = some (.lst xs) ∧ (∀ x ∈ xs, Four h x) ∧ Od h xw dw ∧ Dr p H1 h (14 + 20 * j + 8 * m))
              ⟨_, _, _, _, _, _, _, _, _, rfl, upd_same, Ow.od (by decide), .int hb, owx.same g1, oy.od (by decide), g1 _ _ ht, (fun x hx => (fx x hx).same g1), owx.same g1, (Bx.new nl).mono (by omega)⟩ ?_ ?_
            · rintro m σ h' hm ⟨v10, y1, y2, y3, y4, e1, e2, e3, e4, rfl, hl, o1, o2, o3, o4, ht', fx', owx', Bx'⟩
              have hm2 : (m : Int) < 2 := by
                have hm3 := hm
                omega
              refine ⟨_, rfl, _, rfl, p, word, _, rfl, Bx'.pu, nw, by omega, fun x d h2 od u2 k2 => ?_⟩
              refine ⟨_, rfl, _, rfl, p, _, _, rfl, u2, by omega, by decide, by decide, fun r h3 ra rb u3 k3 => ?_⟩
              have hl3 := k3 _ _ lp (k2 _ _ lp hl)
              have ht3 := k3 _ _ tp (k2 _ _ tp ht')
              have mo1 := (o1.move k2 Bx'.pu).move k3 u2
              have mo2 := (o2.move k2 Bx'.pu).move k3 u2
              have mo3 := (o3.move k2 Bx'.pu).move k3 u2
              have mo4 := (o4.move k2 Bx'.pu).move k3 u2
              have mow := (owx'.move k2 Bx'.pu).move k3 u2
              have od3 := od.move k3 u2
              have f3 : ∀ x ∈ xs, Four h3 x := fun x hx => ((fx' x hx).move k2 Bx'.pu).move k3 u2
              have B9 : ∀ {o : HO}, Dr p H1 (upd h3 l o) (14 + 20 * j + 8 * ((m + 1 : Nat) : Int)) := fun {o} => by
                have B8 := (Bx'.coin k2 u2).coin k3 u3
                refine ⟨fun b' o' nb e => ?_, ?_⟩
                · have q := B8.kp b' o' nb e
                  rw [upd_ne (fun z => by
                    have z1 := Bx.kp b' o' nb e
                    rw [z, nl] at z1
                    cases z1)]
                  exact q
                · obtain ⟨a1, a2, a3, q, rest⟩ := B8.pu.mono (show 14 + 20 * (j : Int) + 8 * (m : Int) + 6 + 1 ≤ 14 + 20 * (j : Int) + 8 * ((m + 1 : Nat) : Int) by omega)
                  exact ⟨a1, a2, a3, by rw [upd_ne (Ne.symm lp)]; exact q, rest⟩
              have r4 : r = 0 ∨ r = 1 ∨ r = 2 ∨ r = 3 := by omega
              rcases r4 with q | q | q | q <;> subst q
              · exact ⟨l, _, _, 0, rfl, rfl, hl3, rfl, _, x, y2, y3, y4, d, e2, e3, e4, rfl, upd_same, (od3.set hl3), (mo2.set hl3), (mo3.set hl3), (mo4.set hl3), (by rw [upd_ne (Ne.symm lt)]; exact ht3), (fun x hx => (f3 x hx).set hl3 (apart x hx)), mow.set hl3, B9⟩
              · exact ⟨l, _, _, 1, rfl, rfl, hl3, rfl, _, y1, x, y3, y4, e1, d, e3, e4, rfl, upd_same, (mo1.set hl3), (od3.set hl3), (mo3.set hl3), (mo4.set hl3), (by rw [upd_ne (Ne.symm lt)]; exact ht3), (fun x hx => (f3 x hx).set hl3 (apart x hx)), mow.set hl3, B9⟩
              · exact ⟨l, _, _, 2, rfl, rfl, hl3, rfl, _, y1, y2, x, y4, e1, e2, d, e4, rfl, upd_same, (mo1.set hl3), (mo2.set hl3), (od3.set hl3), (mo4.set hl3), (by rw [upd_ne (Ne.symm lt)]; exact ht3), (fun x hx => (f3 x hx).set hl3 (apart x hx)), mow.set hl3, B9⟩
              · exact ⟨l, _, _, 3, rfl, rfl, hl3, rfl, _, y1, y2, y3, x, e1, e2, e3, d, rfl, upd_same, (mo1.set hl3), (mo2.set hl3), (mo3.set hl3), (od3.set hl3), (by rw [upd_ne (Ne.symm lt)]; exact ht3), (fun x hx => (f3 x hx).set hl3 (apart x hx)), mow.set hl3, B9⟩
            · rintro σ h' ⟨v10, y1, y2, y3, y4, e1, e2, e3, e4, rfl, hl, o1, o2, o3, o4, ht', fx', owx', Bx'⟩
              exact ⟨_, _, _, _, _, _, _, _, _, rfl, hl, o1, o2, o3, o4, ht', fx', owx', Bx'.mono (by omega)⟩
          rintro σ h' ⟨v10, y1, y2, y3, y4, e1, e2, e3, e4, rfl, hl, o1, o2, o3, o4, ht', fx', owx', Bx'⟩
          have x1 : 1 ≤ xs.length := by omega
          have at4 : Four h' (.ref l) := ⟨l, y1, y2, y3, y4, e1, e2, e3, e4, rfl, hl, o1, o2, o3, o4⟩
          refine ⟨_, rfl, .inl ⟨rfl, _, SqL.of ht'⟩, _, rfl, t, _, _, rfl, rfl, ht', (by rw [hx]; exact Nat.lt_of_lt_of_le (show 1 + j < 100 by omega) (by decide)), ?_⟩
          refine ⟨xs ++ [.ref l], _, _, _, _, rfl, upd_same, (by rw [List.length_append, hx]; show 1 + j + 1 = 1 + (j + 1); omega), fun x hx' => ?_, owx'.grow ht' x1 fx', ⟨fun b' o' nb e => ?_, ?_⟩⟩
          · rcases List.mem_append.mp hx' with q | q
            · exact (fx' x q).grow ht' x1 fx'
            · rw [List.mem_singleton.mp q]
              exact at4.grow ht' x1 fx'
          · rw [upd_ne (fun z => by
              have z1 := B6.kp b' o' nb e
              rw [z] at z1
              exact tnew _ z1)]
            exact Bx'.kp b' o' nb e
          · obtain ⟨a1, a2, a3, q, rest⟩ := Bx'.pu.mono (show 14 + 20 * (j : Int) + 16 ≤ 14 + 20 * ((j + 1 : Nat) : Int) by omega)
            exact ⟨a1, a2, a3, by rw [upd_ne (Ne.symm tp)]; exact q, rest⟩
        · rintro σ h ⟨xs, w8, w9, w10, w11, rfl, ht, hx, fx, owx, Bx⟩
          exact ⟨xs, _, _, _, _, rfl, ht, by omega, fx, Bx.mono (by omega)⟩
      rintro σ H8 ⟨xs, w8, w9, w10, w11, rfl, ht, hx, fx, Bx⟩
      refine ⟨_, rfl, t, rfl, ⟨_, SqL.of ht⟩, for_list (K := K) (a := t) (xs := xs) (fun j σ h => ∃ v8 v9 v10 v11, σ = [some (.ref a), some (.int (0 + (i : Int))), some (.ref p), some (.str word), some (.int b), some xw, some (.str y), some (.ref t), v8, v9, v10, v11] ∧ Same H8 h) ⟨_, _, _, _, rfl, Same.refl H8⟩ (fun _ _ _ _ ⟨_, _, _, _, _, e⟩ => SqL.of (e _ _ ht)) ?_ ?_⟩
      · rintro j x σ h hj ⟨w8, w9, w10, w11, rfl, sh⟩
        obtain ⟨l, x1, x2, x3, x4, d1, d2, d3, d4, rfl, hl, o1, o2, o3, o4⟩ := (fx x (List.mem_of_getElem? hj)).same sh
        obtain ⟨q1, q2, q3, q4⟩ := four_show o1 o2 o3 o4
        refine ⟨_, rfl, l, _, rfl, four_dp hl o1 o2 o3 o4, q1, q2, q3, q4, ?_⟩
        refine ⟨_, rfl, l, x1, x2, x3, x4, d1, d2, d3, d4, rfl, hl, o1, o2, o3, o4, fun t1 h1 z1 A1 => ?_⟩
        refine ⟨_, rfl, l, x1, x2, x3, x4, d1, d2, d3, d4, rfl, z1 _ _ hl, o1.same z1, o2.same z1, o3.same z1, o4.same z1, fun t2 h2 z2 A2 => ?_⟩
        have z12 := z1.trans z2
        refine ⟨_, _, rfl, answers_same (o1.same z12) (o2.same z12) (o3.same z12) (o4.same z12) (A1.same z2) A2, fun h3 z3 => ?_⟩
        have z13 := z12.trans z3
        refine ⟨_, rfl, iteF ⟨_, rfl, l, _, rfl, four_dp (z13 _ _ hl) (o1.same z13) (o2.same z13) (o3.same z13) (o4.same z13), q1, q2, q3, q4, _, rfl, rfl, _, rfl, iteNS rfl ?_⟩⟩
        exact ⟨_, _, _, _, rfl, sh.trans z13⟩
      · rintro σ h ⟨w8, w9, w10, w11, rfl, sh⟩
        exact ⟨_, _, _, _, _, _, _, _, _, _, _, rfl, s1.trans (fun b' o' e => sh _ _ (Bx.kp b' o' (ne_of_none e np) e))⟩
    · rintro σ H1 ⟨v1, v2, v3, v4, v5, v6, v7, v8, v9, v10, v11, rfl, s1⟩
      exact k H1

end
/-! ### what the top has written, the end -/
theorem all_mk {l : PySem.W.OpenLaw} {w : World} {K : PySem.W.Frag} {h : Heap} {mg : Str → Option Value} {fa f1 f2 f3 f4 f5 f6 f7 f8 f9 f10 f11 f12 f13 f14 f15 f16 f17 : Addr} (X : K.In h) (G : h.Ns mainGlobals mg) (hfa : mg "law" = some (.ref fa))
    {od1 an1 od2 an2 od3 an3 od4 an4 od5 an5 od6 an6 od7 an7 od8 an8 od9 an9 od10 an10 od11 an11 od12 an12 od13 an13 od14 an14 od15 an15 od16 an16 od17 an17 : Option Addr} {sl1 sl2 sl3 sl4 sl5 sl6 sl7 sl8 sl9 sl10 sl11 sl12 sl13 sl14 sl15 sl16 sl17 : Array (Option Value)} {oc1 kV1 dc1 pm1 cd1 ct1 oc2 kV2 dc2 pm2 cd2 ct2 oc3 kV3 dc3 pm3 cd3 ct3 oc4 kV4 dc4 pm4 cd4 ct4 oc5 kV5 dc5 pm5 cd5 ct5 oc6 kV6 dc6 pm6 cd6 ct6 oc7 kV7 dc7 pm7 cd7 ct7 oc8 kV8 dc8 pm8 cd8 ct8 oc9 kV9 dc9 pm9 cd9 ct9 oc10 dc10 pm10 cd10 ct10 oc11 kV11 dc11 pm11 cd11 ct11 oc12 kV12 dc12 pm12 cd12 ct12 oc13 kV13 dc13 pm13 cd13 ct13 oc14 kV14 dc14 pm14 cd14 ct14 oc15 kV15 dc15 pm15 cd15 ct15 oc16 kV16 dc16 pm16 cd16 ct16 oc17 kV17 dc17 pm17 cd17 ct17 : Value}
    {C CH CO CN fI DL NC : Addr} {odI anI ddC : Option Addr} {slI : Array (Option Value)} {ocI kVI dcI pmI cdI ctI : Value} {tR : Tok} {nmC qC : Str} {bsC bmC subC : List Value} {snC : List Str} {abC : Bool} {colC : Option Bool} {k0C k1C k2C k3C k5C : Option Value}
    (a1 : PySem.W.nsIn K mainGlobals "_law_purse" = some (some (.ref f1))) (l1 : K.lookup f1 = some ⟨oc1, od1, .func (PySem.W.fnOf "_law_purse" "_law_purse" (defArgs s_law_purse) (defBody s_law_purse) (defScope s_law_purse) .none kV1 dc1 pm1 an1 cd1 ct1), sl1⟩) (c1 : PySem.W.codeIn K cd1 "_law_purse" = true) (k1 : PySem.W.keepIn K (.ref f1) = true)
    (a2 : PySem.W.nsIn K mainGlobals "_law_coin" = some (some (.ref f2))) (l2 : K.lookup f2 = some ⟨oc2, od2, .func (PySem.W.fnOf "_law_coin" "_law_coin" (defArgs s_law_coin) (defBody s_law_coin) (defScope s_law_coin) .none kV2 dc2 pm2 an2 cd2 ct2), sl2⟩) (c2 : PySem.W.codeIn K cd2 "_law_coin" = true) (k2 : PySem.W.keepIn K (.ref f2) = true)
    (a3 : PySem.W.nsIn K mainGlobals "_law_names" = some (some (.ref f3))) (l3 : K.lookup f3 = some ⟨oc3, od3, .func (PySem.W.fnOf "_law_names" "_law_names" (defArgs s_law_names) (defBody s_law_names) (defScope s_law_names) .none kV3 dc3 pm3 an3 cd3 ct3), sl3⟩) (c3 : PySem.W.codeIn K cd3 "_law_names" = true) (k3 : PySem.W.keepIn K (.ref f3) = true)
    (a4 : PySem.W.nsIn K mainGlobals "is_whole" = some (some (.ref f4))) (l4 : K.lookup f4 = some ⟨oc4, od4, .func (PySem.W.fnOf "is_whole" "is_whole" (defArgs s_is_whole) (defBody s_is_whole) (defScope s_is_whole) .none kV4 dc4 pm4 an4 cd4 ct4), sl4⟩) (c4 : PySem.W.codeIn K cd4 "is_whole" = true) (k4 : PySem.W.keepIn K (.ref f4) = true)
    (a5 : PySem.W.nsIn K mainGlobals "is_price" = some (some (.ref f5))) (l5 : K.lookup f5 = some ⟨oc5, od5, .func (PySem.W.fnOf "is_price" "is_price" (defArgs s_is_price) (defBody s_is_price) (defScope s_is_price) .none kV5 dc5 pm5 an5 cd5 ct5), sl5⟩) (c5 : PySem.W.codeIn K cd5 "is_price" = true) (k5 : PySem.W.keepIn K (.ref f5) = true)
    (a6 : PySem.W.nsIn K mainGlobals "is_name" = some (some (.ref f6))) (l6 : K.lookup f6 = some ⟨oc6, od6, .func (PySem.W.fnOf "is_name" "is_name" (defArgs s_is_name) (defBody s_is_name) (defScope s_is_name) .none kV6 dc6 pm6 an6 cd6 ct6), sl6⟩) (c6 : PySem.W.codeIn K cd6 "is_name" = true) (k6 : PySem.W.keepIn K (.ref f6) = true)
    (a7 : PySem.W.nsIn K mainGlobals "first_wrong" = some (some (.ref f7))) (l7 : K.lookup f7 = some ⟨oc7, od7, .func (PySem.W.fnOf "first_wrong" "first_wrong" (defArgs s_first_wrong) (defBody s_first_wrong) (defScope s_first_wrong) .none kV7 dc7 pm7 an7 cd7 ct7), sl7⟩) (c7 : PySem.W.codeIn K cd7 "first_wrong" = true) (k7 : PySem.W.keepIn K (.ref f7) = true)
    (a8 : PySem.W.nsIn K mainGlobals "owned" = some (some (.ref f8))) (l8 : K.lookup f8 = some ⟨oc8, od8, .func (PySem.W.fnOf "owned" "owned" (defArgs s_owned) (defBody s_owned) (defScope s_owned) .none kV8 dc8 pm8 an8 cd8 ct8), sl8⟩) (c8 : PySem.W.codeIn K cd8 "owned" = true) (k8 : PySem.W.keepIn K (.ref f8) = true)
    (a9 : PySem.W.nsIn K mainGlobals "is_band" = some (some (.ref f9))) (l9 : K.lookup f9 = some ⟨oc9, od9, .func (PySem.W.fnOf "is_band" "is_band" (defArgs s_is_band) (defBody s_is_band) (defScope s_is_band) .none kV9 dc9 pm9 an9 cd9 ct9), sl9⟩) (c9 : PySem.W.codeIn K cd9 "is_band" = true) (k9 : PySem.W.keepIn K (.ref f9) = true)
    (a10 : PySem.W.nsIn K mainGlobals "listed" = some (some (.ref f10))) (l10 : K.lookup f10 = some ⟨oc10, od10, .func (PySem.W.fnOf "listed" "listed" (defArgs s_listed) (defBody s_listed) (defScope s_listed) .none (.ref DL) dc10 pm10 an10 cd10 ct10), sl10⟩) (c10 : PySem.W.codeIn K cd10 "listed" = true) (k10 : PySem.W.keepIn K (.ref f10) = true)
    (a11 : PySem.W.nsIn K mainGlobals "_law_told" = some (some (.ref f11))) (l11 : K.lookup f11 = some ⟨oc11, od11, .func (PySem.W.fnOf "_law_told" "_law_told" (defArgs s_law_told) (defBody s_law_told) (defScope s_law_told) .none kV11 dc11 pm11 an11 cd11 ct11), sl11⟩) (c11 : PySem.W.codeIn K cd11 "_law_told" = true) (k11 : PySem.W.keepIn K (.ref f11) = true)
    (a12 : PySem.W.nsIn K mainGlobals "_law_whole" = some (some (.ref f12))) (l12 : K.lookup f12 = some ⟨oc12, od12, .func (PySem.W.fnOf "_law_whole" "_law_whole" (defArgs s_law_whole) (defBody s_law_whole) (defScope s_law_whole) .none kV12 dc12 pm12 an12 cd12 ct12), sl12⟩) (c12 : PySem.W.codeIn K cd12 "_law_whole" = true) (k12 : PySem.W.keepIn K (.ref f12) = true)
    (a13 : PySem.W.nsIn K mainGlobals "_law_is_name" = some (some (.ref f13))) (l13 : K.lookup f13 = some ⟨oc13, od13, .func (PySem.W.fnOf "_law_is_name" "_law_is_name" (defArgs s_law_is_name) (defBody s_law_is_name) (defScope s_law_is_name) .none kV13 dc13 pm13 an13 cd13 ct13), sl13⟩) (c13 : PySem.W.codeIn K cd13 "_law_is_name" = true) (k13 : PySem.W.keepIn K (.ref f13) = true)
    (a14 : PySem.W.nsIn K mainGlobals "_law_due" = some (some (.ref f14))) (l14 : K.lookup f14 = some ⟨oc14, od14, .func (PySem.W.fnOf "_law_due" "_law_due" (defArgs s_law_due) (defBody s_law_due) (defScope s_law_due) .none kV14 dc14 pm14 an14 cd14 ct14), sl14⟩) (c14 : PySem.W.codeIn K cd14 "_law_due" = true) (k14 : PySem.W.keepIn K (.ref f14) = true)
    (a15 : PySem.W.nsIn K mainGlobals "_law_odd" = some (some (.ref f15))) (l15 : K.lookup f15 = some ⟨oc15, od15, .func (PySem.W.fnOf "_law_odd" "_law_odd" (defArgs s_law_odd) (defBody s_law_odd) (defScope s_law_odd) .none kV15 dc15 pm15 an15 cd15 ct15), sl15⟩) (c15 : PySem.W.codeIn K cd15 "_law_odd" = true) (k15 : PySem.W.keepIn K (.ref f15) = true)
    (a16 : PySem.W.nsIn K mainGlobals "_law_same" = some (some (.ref f16))) (l16 : K.lookup f16 = some ⟨oc16, od16, .func (PySem.W.fnOf "_law_same" "_law_same" (defArgs s_law_same) (defBody s_law_same) (defScope s_law_same) .none kV16 dc16 pm16 an16 cd16 ct16), sl16⟩) (c16 : PySem.W.codeIn K cd16 "_law_same" = true) (k16 : PySem.W.keepIn K (.ref f16) = true)
    (a17 : PySem.W.nsIn K mainGlobals "law" = some (some (.ref f17))) (l17 : K.lookup f17 = some ⟨oc17, od17, .func (PySem.W.fnOf "law" "law" (defArgs s_law) (defBody s_law) (defScope s_law) .none kV17 dc17 pm17 an17 cd17 ct17), sl17⟩) (c17 : PySem.W.codeIn K cd17 "law" = true) (k17 : PySem.W.keepIn K (.ref f17) = true)
    (z0 : PySem.W.nsIn K mainGlobals "len" = some none)
    (z1 : PySem.W.nsIn K mainGlobals "max" = some none)
    (z2 : PySem.W.nsIn K mainGlobals "min" = some none)
    (z3 : PySem.W.nsIn K mainGlobals "range" = some none)
    (z4 : PySem.W.nsIn K mainGlobals "bool" = some none)
    (z5 : PySem.W.nsIn K mainGlobals "isinstance" = some none)
    (z6 : PySem.W.nsIn K mainGlobals "int" = some none)
    (z7 : PySem.W.nsIn K mainGlobals "str" = some none)
    (z8 : PySem.W.nsIn K mainGlobals "all" = some none)
    (z9 : PySem.W.nsIn K mainGlobals "list" = some none)
    (z10 : PySem.W.nsIn K mainGlobals "tuple" = some none)
    (z11 : PySem.W.nsIn K mainGlobals "zip" = some none)
    (z12 : PySem.W.nsIn K mainGlobals "repr" = some none)
    (z13 : PySem.W.nsIn K mainGlobals "ValueError" = some none)
    {t0 : Tok} (gl_0 : PySem.W.nsIn K mainGlobals "HIGHEST_PRICE" = some (some (.int 1000000 t0)))
    {t1 : Tok} (gl_1 : PySem.W.nsIn K mainGlobals "LONGEST_NAME" = some (some (.int 8 t1)))
    {t2 : Tok} (gl_2 : PySem.W.nsIn K mainGlobals "WIDEST_BAND" = some (some (.int 1000000 t2)))
    {t3 : Tok} (gl_3 : PySem.W.nsIn K mainGlobals "RANK" = some (some (.str "rank" t3)))
    {t4 : Tok} (gl_4 : PySem.W.nsIn K mainGlobals "SHARE" = some (some (.str "share" t4)))
    (aC : PySem.W.nsIn K mainGlobals "BadThing" = some (some (.ref C)))
    (aH : PySem.W.nsIn K mainGlobals "HallError" = some (some (.ref CH)))
    (aO : PySem.W.nsIn K mainGlobals "BadOrder" = some (some (.ref CO)))
    (aN : PySem.W.nsIn K mainGlobals "NoThing" = some (some (.ref CN)))
    (lC : K.lookup C = some (excClassObj nmC qC C NC bsC bmC true snC subC abC colC ddC k0C k1C k2C k3C k5C "ValueError.__new__"))
    (vC : PySem.HandSPX.refsVE bmC = true)
    (sa : PySem.W.findIn K (.ref C) "__setattr__" = some (some (.builtin "object.__setattr__")))
    (exC : PySem.W.subIn K (.ref C) (.type "BaseException") = some true)
    (tyC : PySem.W.typeIn K (.ref C) = some (.type "type"))
    (kC : PySem.W.keepIn K (.ref C) = true)
    (iC : PySem.W.findIn K (.ref C) "__init__" = some (some (.ref fI)))
    (tI : PySem.W.typeIn K (.ref fI) = some (.type "function"))
    (lI : K.lookup fI = some ⟨ocI, odI, .func (PySem.W.fnOf "__init__" "BadThing.__init__" (defArgs s_BadThing_init) (defBody s_BadThing_init) (defScope s_BadThing_init) .none kVI dcI pmI anI cdI ctI), slI⟩)
    (cI : PySem.W.codeIn K cdI "BadThing.__init__" = true)
    (kI : PySem.W.keepIn K (.ref fI) = true)
    (noW : PySem.W.findIn K (.ref C) "word" = some none)
    (x1 : PySem.W.exmOne K (.ref C) (.ref CH) = some true)
    (x2 : PySem.W.kitOne K (.ref C) (.ref C) = some true)
    (x3 : PySem.W.kitOne K (.ref C) (.type "ValueError") = some true)
    (x4 : PySem.W.kitAny K (.ref C) [.ref CO, .ref CN] = some false)
    (hg : PySem.W.findIn K (.ref C) "__getattribute__" = some (some (.builtin "BaseException.__getattribute__")))
    (hk : PySem.W.findIn K (.ref C) "__getattr__" = some none)
    (hd : PySem.W.hasDictIn K C = true)
    (hcl : PySem.W.findIn K (.ref C) "__class__" = some (some (.builtin "object.__class__")))
    (hn : PySem.W.specialIn K (.builtin "object.__class__") "__get__" = some (some (.builtin "getset_descriptor.__get__")))
    (ht : PySem.W.takesIn K (.builtin "object.__class__") = some true)
    (hm : PySem.W.mroIn K C (.type "object") = some true)
    (dB : PySem.W.nsIn K DL "band" = some (some .none))
    (dR : PySem.W.nsIn K DL "rule" = some (some (.str "rank" tR)))
    : ∃ fd : FuncData, (∀ (s : Shared) (v : Value), BindsTo s fd ⟨[v], []⟩ [("script", v)]) ∧ ∀ base : Heap, K.In base → base.Ns mainGlobals mg → FnAt l.prog w K mg base CX0 callerA fa fd ["script"] (spLaw K) := by
  have e := hfa.symm.trans (PySem.W.mg_of X G a17)
  cases e
  have T : Txt mg := ⟨PySem.W.mg_none_of X G z0, PySem.W.mg_none_of X G z1, PySem.W.mg_none_of X G z2, PySem.W.mg_none_of X G z3, PySem.W.mg_none_of X G z4, PySem.W.mg_none_of X G z5, PySem.W.mg_none_of X G z6, PySem.W.mg_none_of X G z7, PySem.W.mg_none_of X G z8, PySem.W.mg_none_of X G z9, PySem.W.mg_none_of X G z10, PySem.W.mg_none_of X G z11, PySem.W.mg_none_of X G z12, PySem.W.mg_none_of X G z13, ⟨_, PySem.W.mg_of X G gl_0⟩, ⟨_, PySem.W.mg_of X G gl_1⟩, ⟨_, PySem.W.mg_of X G gl_2⟩, ⟨_, PySem.W.mg_of X G gl_3⟩, ⟨_, PySem.W.mg_of X G gl_4⟩⟩
  have F1 := fun_mk (st := s_law_purse) l1 c1 k1
  have b1 := F1.binds (ps := ["script", "k"]) fun _ _ _ _ _ _ us hl => match us, hl with | [_, _], _ => rfl
  have F2 := fun_mk (st := s_law_coin) l2 c2 k2
  have b2 := F2.binds (ps := ["purse", "many"]) fun _ _ _ _ _ _ us hl => match us, hl with | [_, _], _ => rfl
  have F3 := fun_mk (st := s_law_names) l3 c3 k3
  have b3 := F3.binds (ps := ["purse", "many"]) fun _ _ _ _ _ _ us hl => match us, hl with | [_, _], _ => rfl
  have F4 := fun_mk (st := s_is_whole) l4 c4 k4
  have b4 := F4.binds (ps := ["told"]) fun _ _ _ _ _ _ us hl => match us, hl with | [_], _ => rfl
  have F5 := fun_mk (st := s_is_price) l5 c5 k5
  have b5 := F5.binds (ps := ["told"]) fun _ _ _ _ _ _ us hl => match us, hl with | [_], _ => rfl
  have F6 := fun_mk (st := s_is_name) l6 c6 k6
  have b6 := F6.binds (ps := ["told"]) fun _ _ _ _ _ _ us hl => match us, hl with | [_], _ => rfl
  have F7 := fun_mk (st := s_first_wrong) l7 c7 k7
  have b7 := F7.binds (ps := ["parts"]) fun _ _ _ _ _ _ us hl => match us, hl with | [_], _ => rfl
  have F8 := fun_mk (st := s_owned) l8 c8 k8
  have b8 := F8.binds (ps := ["told"]) fun _ _ _ _ _ _ us hl => match us, hl with | [_], _ => rfl
  have F9 := fun_mk (st := s_is_band) l9 c9 k9
  have b9 := F9.binds (ps := ["told"]) fun _ _ _ _ _ _ us hl => match us, hl with | [_], _ => rfl
  have F10 := fun_mk (st := s_listed) l10 c10 k10
  have F11 := fun_mk (st := s_law_told) l11 c11 k11
  have b11 := F11.binds (ps := ["parts"]) fun _ _ _ _ _ _ us hl => match us, hl with | [_], _ => rfl
  have F12 := fun_mk (st := s_law_whole) l12 c12 k12
  have b12 := F12.binds (ps := ["thing", "least", "most"]) fun _ _ _ _ _ _ us hl => match us, hl with | [_, _, _], _ => rfl
  have F13 := fun_mk (st := s_law_is_name) l13 c13 k13
  have b13 := F13.binds (ps := ["thing"]) fun _ _ _ _ _ _ us hl => match us, hl with | [_], _ => rfl
  have F14 := fun_mk (st := s_law_due) l14 c14 k14
  have b14 := F14.binds (ps := ["parts"]) fun _ _ _ _ _ _ us hl => match us, hl with | [_], _ => rfl
  have F15 := fun_mk (st := s_law_odd) l15 c15 k15
  have b15 := F15.binds (ps := ["purse", "word"]) fun _ _ _ _ _ _ us hl => match us, hl with | [_, _], _ => rfl
  have F16 := fun_mk (st := s_law_same) l16 c16 k16
  have b16 := F16.binds (ps := ["this", "that"]) fun _ _ _ _ _ _ us hl => match us, hl with | [_, _], _ => rfl
  have F17 := fun_mk (st := s_law) l17 c17 k17
  refine ⟨PySem.W.fnOf "law" "law" (defArgs s_law) (defBody s_law) (defScope s_law) .none kV17 dc17 pm17 an17 cd17 ct17, fun s v => .of_eq rfl, fun base _ _ => ?_⟩
  have C1 : Cal l.prog w K mg base 1 "_law_purse" ["script", "k"] (spPurse K) := ⟨f1, _, ok_purse F1 T, PySem.W.mg_of X G a1, k1, b1⟩
  have C2 : Cal l.prog w K mg base 1 "_law_coin" ["purse", "many"] (spCoin) := ⟨f2, _, ok_coin F2, PySem.W.mg_of X G a2, k2, b2⟩
  have C3 : Cal l.prog w K mg base 2 "_law_names" ["purse", "many"] (spNames) := ⟨f3, _, ok_names F3 T C2, PySem.W.mg_of X G a3, k3, b3⟩
  have C4 : Cal l.prog w K mg base 1 "is_whole" ["told"] (spWhole K) := ⟨f4, _, ok_whole F4 T, PySem.W.mg_of X G a4, k4, b4⟩
  have C5 : Cal l.prog w K mg base 2 "is_price" ["told"] (spRange 1 1000000) := ⟨f5, _, ok_price F5 T C4, PySem.W.mg_of X G a5, k5, b5⟩
  have C6 : Cal l.prog w K mg base 1 "is_name" ["told"] (spName) := ⟨f6, _, ok_name F6 T, PySem.W.mg_of X G a6, k6, b6⟩
  have C7 : Cal l.prog w K mg base 1 "first_wrong" ["parts"] (spFirst K) := ⟨f7, _, ok_first F7, PySem.W.mg_of X G a7, k7, b7⟩
  have C8 : Cal l.prog w K mg base 1 "owned" ["told"] (spOwned) := ⟨f8, _, ok_owned F8 T (PySem.W.mg_of X G a8) k8 b8, PySem.W.mg_of X G a8, k8, b8⟩
  have C9 : Cal l.prog w K mg base 2 "is_band" ["told"] (spRange 0 1000000) := ⟨f9, _, ok_band F9 T C4, PySem.W.mg_of X G a9, k9, b9⟩
  have OX : OexC K C := ⟨⟨_, _, _, _, _, _, _, _, _, _, _, _, _, _, _, lC, vC⟩, sa, exC, tyC, kC⟩
  have FI := fun_mk (st := s_BadThing_init) lI cI kI
  have bI := FI.binds (ps := ["self", "word"]) fun _ _ _ _ _ _ us hl => match us, hl with | [_, _], _ => rfl
  have GL := ok_listed F10 T OX iC tI (ok_bad_init FI OX noW C8) bI (PySem.W.mg_of X G aC) C6 C5 C9 C7
  have FL : FunD K "listed" "listed" (defArgs s_listed) (defBody s_listed) (defScope s_listed) [] [("band", .non), ("rule", .str "rank")] f10 _ := ⟨⟨oc10, od10, .none, .ref DL, dc10, pm10, an10, cd10, ct10, sl10, rfl, l10, c10, .inl ⟨rfl, rfl⟩, .inr ⟨DL, rfl, fun q hq => by
    rcases List.mem_cons.mp hq with e | hq
    · rw [e]; exact ⟨_, dB, rfl⟩
    · rw [List.mem_singleton.mp hq]; exact ⟨_, dR, _, rfl⟩⟩⟩, k10⟩
  obtain ⟨w1, kb1⟩ := FL.kbinds0 (ps := ["name", "start", "band", "rule"]) 2 [] [("band", .non), ("rule", .str "rank")] (fun us mv _ => us ++ mv) (by simp) (fun q hq => hq) (fun r1 r2 _ => r1.append r2) (fun D doc pm an cdv ct us mv ws h1 h2 h3 => match us, mv, ws, h1, h2, h3 with | [u0, u1], [m0, m1], [], _, _, _ => kw2 D doc pm an cdv ct u0 u1 m0 m1)
  obtain ⟨w2, kb2⟩ := FL.kbinds0 (ps := ["name", "start", "band", "rule"]) 2 ["rule"] [("band", .non)] (fun us mv ws => us ++ mv ++ ws) (by simp) (fun q hq => by rw [List.mem_singleton.mp hq]; simp) (fun r1 r2 r3 => (r1.append r2).append r3) (fun D doc pm an cdv ct us mv ws h1 h2 h3 => match us, mv, ws, h1, h2, h3 with | [u0, u1], [m0], [w0], _, _, _ => kw1a D doc pm an cdv ct u0 u1 m0 w0)
  obtain ⟨w3, kb3⟩ := FL.kbinds0 (ps := ["name", "start", "band", "rule"]) 2 ["band"] [("rule", .str "rank")] (fun us mv ws => us ++ ws ++ mv) (by simp) (fun q hq => by rw [List.mem_singleton.mp hq]; simp) (fun r1 r2 r3 => (r1.append r3).append r2) (fun D doc pm an cdv ct us mv ws h1 h2 h3 => match us, mv, ws, h1, h2, h3 with | [u0, u1], [m0], [w0], _, _, _ => kw1b D doc pm an cdv ct u0 u1 m0 w0)
  obtain ⟨w4, kb4⟩ := FL.kbinds0 (ps := ["name", "start", "band", "rule"]) 2 ["rule", "band"] [] (fun us _ ws => us ++ ws.reverse) (by simp) (fun q hq => by cases hq) (fun r1 _ r3 => r1.append (vals_rev r3)) (fun D doc pm an cdv ct us mv ws h1 h2 h3 => match us, mv, ws, h1, h2, h3 with | [u0, u1], [], [w0, w1], _, _, _ => kw0 D doc pm an cdv ct u0 u1 w0 w1)
  have OL : LTxt K mg C CH CO CN := ⟨PySem.W.mg_of X G aC, PySem.W.mg_of X G aH, PySem.W.mg_of X G aO, PySem.W.mg_of X G aN, x1, x2, x3, x4, ⟨hg, hk, exC, hd, hcl, hn, ht, hm⟩, ⟨hg, hk, exC, hd⟩, noW⟩
  have C11 : Cal l.prog w K mg base 6 "_law_told" ["parts"] (spTold) := ⟨f11, _, ok_told F11 T OL GL (PySem.W.mg_of X G a10) k10 kb1 kb2 kb3 kb4, PySem.W.mg_of X G a11, k11, b11⟩
  have C12 : Cal l.prog w K mg base 1 "_law_whole" ["thing", "least", "most"] (spLWhole) := ⟨f12, _, ok_lwhole F12 T, PySem.W.mg_of X G a12, k12, b12⟩
  have C13 : Cal l.prog w K mg base 1 "_law_is_name" ["thing"] (spLName) := ⟨f13, _, ok_lname F13 T, PySem.W.mg_of X G a13, k13, b13⟩
  have C14 : Cal l.prog w K mg base 2 "_law_due" ["parts"] (spTold) := ⟨f14, _, ok_due F14 T C13 C12, PySem.W.mg_of X G a14, k14, b14⟩
  have C15 : Cal l.prog w K mg base 2 "_law_odd" ["purse", "word"] (spOdd) := ⟨f15, _, ok_odd F15 T C2, PySem.W.mg_of X G a15, k15, b15⟩
  have C16 : Cal l.prog w K mg base 6 "_law_same" ["this", "that"] (spSame (SamI inn2)) := ⟨f16, _, ok_same3 F16 T (PySem.W.mg_of X G a16) k16 b16, PySem.W.mg_of X G a16, k16, b16⟩
  exact ok_law F17 T C1 C2 C3 C15 C11 C14 C16
theorem walk {l : PySem.W.OpenLaw} {q : Program} {loose : List Str} {XP : (Str → Option Value) → Heap → Prop} {YP : World → Heap → Prop} {d : DefRec} {K : Params → PySem.W.Frag} (hn : l.most = some 63) (hdf : d.params.defaults = [])
    (hY : ∀ (w : World) (h : Heap), YP w h → (K w.params).In h)
    (F : ∀ (w : World) (mg : Str → Option Value) (fa : Addr) (h : Heap), (K w.params).In h → h.Ns mainGlobals mg → mg d.name = some (.ref fa) →
      ∃ fd : FuncData, (∀ (s : Shared) (u : Value), BindsTo s fd ⟨[u], []⟩ [("script", u)]) ∧ ∀ base : Heap, (K w.params).In base → base.Ns mainGlobals mg → FnAt l.prog w (K w.params) mg base CX0 callerA fa fd ["script"] (spLaw (K w.params))) :
    PySem.W.WalkO q loose XP YP l.row.toRowW d [] (fun f vs => PySem.call f vs) := by
  refine Att.attach_callB hn hdf fun w s0 s1 mg mb fa o pm cd doc adr us nums Gr Yh h1 h2 h3 h4 h5 h6 h7 h8 h9 => ?_
  have KX := hY w _ Yh
  obtain ⟨fd, hb, hF⟩ := F w mg fa _ KX Gr.T.g h4
  exact end_at KX Gr.T.g Gr.T.b Gr.T.builtins Gr.T.nolimit h9 h5 h6 (Nat.le_trans h7 (by decide)) hF hb (fun H hS => ⟨adr, nums, rfl, hS, h7, fun _ => rfl⟩) fun _ _ _ z => z
end Rh
open PySem PySem.W PyProof.Rows
set_option maxRecDepth 100000 in
set_option maxHeartbeats 0 in
theorem PySem.Challenge.cw_ringhall_k01_things_listed_holds : PySem.Challenge.rw_ringhall_k01_things_listed.Holds := by
  w_on; o_law; k_head; (case hw => w_witness2)
  k_fill
  refine Rh.walk (l := PySem.Challenge.rw_ringhall_k01_things_listed) rfl rfl (fun w h Y => PySem.W.kIn_of Y) ?F
  case F =>
    intro w mg fa h KX G hmg
    refine' Rh.all_mk KX G hmg ?a1 ?l1 ?c1 ?k1 ?a2 ?l2 ?c2 ?k2 ?a3 ?l3 ?c3 ?k3 ?a4 ?l4 ?c4 ?k4 ?a5 ?l5 ?c5 ?k5 ?a6 ?l6 ?c6 ?k6 ?a7 ?l7 ?c7 ?k7 ?a8 ?l8 ?c8 ?k8 ?a9 ?l9 ?c9 ?k9 ?a10 ?l10 ?c10 ?k10 ?a11 ?l11 ?c11 ?k11 ?a12 ?l12 ?c12 ?k12 ?a13 ?l13 ?c13 ?k13 ?a14 ?l14 ?c14 ?k14 ?a15 ?l15 ?c15 ?k15 ?a16 ?l16 ?c16 ?k16 ?a17 ?l17 ?c17 ?k17 ?z0 ?z1 ?z2 ?z3 ?z4 ?z5 ?z6 ?z7 ?z8 ?z9 ?z10 ?z11 ?z12 ?z13 ?gl_0 ?gl_1 ?gl_2 ?gl_3 ?gl_4 ?aC ?aH ?aO ?aN ?lC ?vC ?sa ?exC ?tyC ?kC ?iC ?tI ?lI ?cI ?kI ?noW ?x1 ?x2 ?x3 ?x4 ?hg ?hk ?hd ?hcl ?hn ?ht ?hm ?dB ?dR
    (case a1 => k_is)
    (case l1 => k_is)
    (case c1 => k_is)
    (case k1 => k_is)
    (case a2 => k_is)
    (case l2 => k_is)
    (case c2 => k_is)
    (case k2 => k_is)
    (case a3 => k_is)
    (case l3 => k_is)
    (case c3 => k_is)
    (case k3 => k_is)
    (case a4 => k_is)
    (case l4 => k_is)
    (case c4 => k_is)
    (case k4 => k_is)
    (case a5 => k_is)
    (case l5 => k_is)
    (case c5 => k_is)
    (case k5 => k_is)
    (case a6 => k_is)
    (case l6 => k_is)
    (case c6 => k_is)
    (case k6 => k_is)
    (case a7 => k_is)
    (case l7 => k_is)
    (case c7 => k_is)
    (case k7 => k_is)
    (case a8 => k_is)
    (case l8 => k_is)
    (case c8 => k_is)
    (case k8 => k_is)
    (case a9 => k_is)
    (case l9 => k_is)
    (case c9 => k_is)
    (case k9 => k_is)
    (case a10 => k_is)
    (case l10 => k_is)
    (case c10 => k_is)
    (case k10 => k_is)
    (case a11 => k_is)
    (case l11 => k_is)
    (case c11 => k_is)
    (case k11 => k_is)
    (case a12 => k_is)
    (case l12 => k_is)
    (case c12 => k_is)
    (case k12 => k_is)
    (case a13 => k_is)
    (case l13 => k_is)
    (case c13 => k_is)
    (case k13 => k_is)
    (case a14 => k_is)
    (case l14 => k_is)
    (case c14 => k_is)
    (case k14 => k_is)
    (case a15 => k_is)
    (case l15 => k_is)
    (case c15 => k_is)
    (case k15 => k_is)
    (case a16 => k_is)
    (case l16 => k_is)
    (case c16 => k_is)
    (case k16 => k_is)
    (case a17 => k_is)
    (case l17 => k_is)
    (case c17 => k_is)
    (case k17 => k_is)
    (case z0 => k_is)
    (case z1 => k_is)
    (case z2 => k_is)
    (case z3 => k_is)
    (case z4 => k_is)
    (case z5 => k_is)
    (case z6 => k_is)
    (case z7 => k_is)
    (case z8 => k_is)
    (case z9 => k_is)
    (case z10 => k_is)
    (case z11 => k_is)
    (case z12 => k_is)
    (case z13 => k_is)
    (case gl_0 => k_is)
    (case gl_1 => k_is)
    (case gl_2 => k_is)
    (case gl_3 => k_is)
    (case gl_4 => k_is)
    (case aC => k_is)
    (case aH => k_is)
    (case aO => k_is)
    (case aN => k_is)
    (case lC => k_is)
    (case vC => kernel_rfl)
    (case sa => k_is)
    (case exC => k_is)
    (case tyC => k_is)
    (case kC => k_is)
    (case iC => k_is)
    (case tI => k_is)
    (case lI => k_is)
    (case cI => k_is)
    (case kI => k_is)
    (case noW => k_is)
    (case x1 => kernel_rfl)
    (case x2 => kernel_rfl)
    (case x3 => kernel_rfl)
    (case x4 => kernel_rfl)
    (case hg => k_is)
    (case hk => k_is)
    (case hd => k_is)
    (case hcl => k_is)
    (case hn => k_is)
    (case ht => k_is)
    (case hm => k_is)
    (case dB => k_is)
    (case dR => k_is)


