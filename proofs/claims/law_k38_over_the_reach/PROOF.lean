import PyProof.Rows.All
import Wide.All
import OpenK.AllK
import Wide.FinOn
import HandS.ForMost
import HandS.IsInst
import HandS.Wide
import HandS.Codes
import HandS.Walk
import HandS.Deep
import HandS.Lambda
import HandS.SortKw
import KE.SortKeyHeap
import KE.SortLaws
import KE.KLam
import HandS.EndBits
import HandS.EndTab
import HandS.Zip
import HandS.Rev
import HandS.Defaults
import HandS.Flow
import HandS.Strs
import HandS.SetBool
import HandS.SetFor
import HandS.SetKeys
import HandS.Style
import HandS.TupAny
import HandS.RaiseMore
import HandS.Text
import HandS.MakeKwOnly
import PySem.Challenge.RW_ringhall_k38_over_the_reach
set_option Elab.async false
set_option linter.all false
set_option maxHeartbeats 4000000
set_option maxRecDepth 100000
set_option exponentiation.threshold 2000
namespace Rh
open PySem L2
def topS (i : Nat) : Stmt := PySem.Challenge.pw_ringhall_k38_over_the_reach.main.body.getD i (.Pass ⟨0, 0, 0, 0⟩)
/-! ### the purse -/
def Pu (H : Hp) (p : Addr) (n : Int) : Prop := ∃ own seed cnt : Int, H p = some (.lst [.int own, .int seed, .int cnt]) ∧ 0 ≤ own ∧ 0 ≤ seed ∧ seed < 2 ^ 63 ∧ 0 ≤ cnt ∧ cnt ≤ n
def Keep (p : Addr) (H H' : Hp) : Prop := ∀ b o, b ≠ p → H b = some o → H' b = some o
theorem Keep.refl (p : Addr) (H : Hp) : Keep p H H := fun _ _ _ h => h
theorem Keep.trans {p : Addr} {H H1 H2 : Hp} (a : Keep p H H1) (b : Keep p H1 H2) : Keep p H H2 := fun c o n h => b c o n (a c o n h)
theorem Keep.same {p : Addr} {H H' : Hp} (s : Same H H') : Keep p H H' := fun c o _ h => s c o h
theorem Same.keep {p : Addr} {H0 H H' : Hp} (s : Same H0 H) (k : Keep p H H') (n : H0 p = none) : Same H0 H' := fun b o h => k b o (ne_of_none h n) (s b o h)
theorem Same.new {H : Hp} {p : Addr} {o : HO} (h : H p = none) : Same H (upd H p o) := fun a u e => by
  rw [upd_ne (ne_of_none e h)]
  exact e
theorem Pu.same {H H' : Hp} {p : Addr} {n : Int} (u : Pu H p n) (s : Same H H') : Pu H' p n := by
  obtain ⟨a, b, c, h, r⟩ := u
  exact ⟨a, b, c, s _ _ h, r⟩
theorem Pu.mono {H : Hp} {p : Addr} {n m : Int} (u : Pu H p n) (h : n ≤ m) : Pu H p m := by
  obtain ⟨a, b, c, h1, h2, h3, h4, h5, h6⟩ := u
  exact ⟨a, b, c, h1, h2, h3, h4, h5, by omega⟩

def spPurse (K : PySem.W.Frag) : Sp := fun vs H Q _ => ∃ (a : Addr) (ns : List Int) (k : Int), vs = [.ref a, .int k] ∧ SqL K H a (ns.map V.int) ∧ ns.length ≤ 63 ∧ 0 ≤ k ∧ k < 64 ∧ ∀ p H', H p = none → Same H H' → Pu H' p 0 → Q (.ref p) H'
def spCoin : Sp := fun vs H Q _ => ∃ (p : Addr) (many n : Int), vs = [.ref p, .int many] ∧ Pu H p n ∧ n < 2 ^ 30 ∧ 1 ≤ many ∧ many < 2 ^ 300 ∧
  ∀ r H', 0 ≤ r → r < many → Pu H' p (n + 1) → Keep p H H' → Q (.int r) H'

/-- a def that stands under its name and keeps its promise -/
def Cal (P : Program) (w : World) (K : PySem.W.Frag) (mg : Str → Option Value) (base : Heap) (k : Nat) (x : Str) (ps : List Str) (sp : Sp) : Prop :=
  ∃ (f : Addr) (fd : FuncData), FnOk P w K mg base CX0 k f fd ps sp ∧ mg x = some (.ref f) ∧ PySem.W.keepIn K (.ref f) = true ∧ Binds K fd ps []

abbrev primesL : List V := [.int 2147483489, .int 2147483477, .int 2147483423, .int 2147483399, .int 2147483353, .int 2147483323, .int 2147483269, .int 2147483249]
theorem prime_at {i : Int} (h0 : 0 ≤ i) (h8 : i < 8) : ∃ v : Int, atI primesL i = some (.int v) ∧ 2147483249 ≤ v ∧ v ≤ 2147483489 := by
  have h : i = 0 ∨ i = 1 ∨ i = 2 ∨ i = 3 ∨ i = 4 ∨ i = 5 ∨ i = 6 ∨ i = 7 := by omega
  rcases h with h | h | h | h | h | h | h | h <;> subst h <;> exact ⟨_, rfl, by decide, by decide⟩

theorem yesC {σ : L2.St} {H : Hp} {A B : Hp → Prop} (h : A H) : tYes σ H (fun b H3 => if b = true then A H3 else B H3) := by
  show (if true = true then A H else B H)
  rw [if_pos rfl]
  exact h

/-! ### data readings: what stands in the heap as data -/
/-- the tables of code objects that may grow -/
class Tabz where
  T : List (Addr × Str)
/-- a family of tapes: what holds of a tape and of what else may be changed, where that stands -/
class Fam where
  Tq : V → V → Hp → Int → Prop
  Pq : V → V → Addr → Prop
  mv : ∀ {u t : V} {H H' : Hp} {n : Int}, Tq u t H n → (∀ b o, Pq u t b → H b = some o → H' b = some o) → Tq u t H' n
  ty : ∀ {u t : V} {H : Hp} {n : Int} {a : Addr}, Tq u t H n → Pq u t a → ∃ xs, H a = some (.lst xs)
section
variable [Fam] [Tabz]
mutual
inductive Rp (H : Hp) : V → PyData → Prop
  | non : Rp H .non .none
  | bl (b : Bool) : Rp H (.bl b) (.bool b)
  | int (i : Int) : Rp H (.int i) (.int i)
  | str (x : Str) : Rp H (.str x) (.str x)
  | lst {a : Addr} {xs : List V} {ds : List PyData} : H a = some (.lst xs) → RpA H xs ds → Rp H (.ref a) (.list ds)
  | tup {a : Addr} {xs : List V} {ds : List PyData} : H a = some (.tup xs) → RpA H xs ds → Rp H (.ref a) (.tuple ds)
inductive RpA (H : Hp) : List V → List PyData → Prop
  | nil : RpA H [] []
  | cons {v : V} {vs : List V} {d : PyData} {ds : List PyData} : Rp H v d → RpA H vs ds → RpA H (v :: vs) (d :: ds)
end
/-- all but tables of code objects stays -/
def Xt (H H' : Hp) : Prop := ∀ b o, (∀ ps, o ≠ HO.tbl ps) → H b = some o → H' b = some o
theorem Rp.ex {M M' : Hp} {v : V} {d : PyData} (r : Rp M v d) (e : Xt M M') : Rp M' v d := by
  refine Rp.rec (motive_1 := fun v d _ => Rp M' v d) (motive_2 := fun vs ds _ => RpA M' vs ds) .non (fun b => .bl b) (fun i => .int i) (fun x => .str x) ?_ ?_ .nil ?_ r
  · intro a xs ds h _ ih
    exact .lst (e _ _ (fun ps z => by cases z) h) ih
  · intro a xs ds h _ ih
    exact .tup (e _ _ (fun ps z => by cases z) h) ih
  · intro v vs d ds _ _ h1 h2
    exact .cons h1 h2
theorem RpA.ex {M M' : Hp} {vs : List V} {ds : List PyData} (r : RpA M vs ds) (e : Xt M M') : RpA M' vs ds := by
  refine RpA.rec (motive_1 := fun v d _ => Rp M' v d) (motive_2 := fun vs ds _ => RpA M' vs ds) .non (fun b => .bl b) (fun i => .int i) (fun x => .str x) ?_ ?_ .nil ?_ r
  · intro a xs ds h _ ih
    exact .lst (e _ _ (fun ps z => by cases z) h) ih
  · intro a xs ds h _ ih
    exact .tup (e _ _ (fun ps z => by cases z) h) ih
  · intro v vs d ds _ _ h1 h2
    exact .cons h1 h2
theorem Rp.dp {K : PySem.W.Frag} {M : Hp} {v : V} {d : PyData} (r : Rp M v d) : Dp K M v d := by
  refine Rp.rec (motive_1 := fun v d _ => Dp K M v d) (motive_2 := fun vs ds _ => DpAll K M vs ds) .non (fun b => .bl b) (fun i => .int i) (fun x => .str x) ?_ ?_ .nil ?_ r
  · intro a xs ds h _ ih
    exact .lst (SqL.of h) ih
  · intro a xs ds h _ ih
    exact .tup (SqT.of h) ih
  · intro v vs d ds _ _ h1 h2
    exact .cons h1 h2
theorem RpA.length {M : Hp} : ∀ {vs : List V} {ds : List PyData}, RpA M vs ds → vs.length = ds.length
  | _, _, .nil => rfl
  | _, _, .cons _ t => by
    show _ + 1 = _ + 1
    rw [RpA.length t]
theorem RpA.get {M : Hp} : ∀ {vs : List V} {ds : List PyData} {i : Nat} {d : PyData}, RpA M vs ds → ds[i]? = some d → ∃ v, vs[i]? = some v ∧ Rp M v d
  | _, _, _, _, .nil, e => by simp at e
  | _, _, 0, _, .cons r _, e => by
    simp at e
    subst e
    exact ⟨_, rfl, r⟩
  | _, _, i + 1, d, .cons _ t, e => by
    obtain ⟨v, h1, h2⟩ := RpA.get (i := i) (d := d) t (by simpa using e)
    exact ⟨v, by simpa using h1, h2⟩
theorem RpA.app {M : Hp} : ∀ {vs ws : List V} {ds es : List PyData}, RpA M vs ds → RpA M ws es → RpA M (vs ++ ws) (ds ++ es)
  | _, _, _, _, .nil, s => s
  | _, _, _, _, .cons r t, s => .cons r (RpA.app t s)
theorem RpA.one {M : Hp} {v : V} {d : PyData} (r : Rp M v d) : RpA M [v] [d] := .cons r .nil
theorem RpA.set {M : Hp} {v : V} {d : PyData} (r : Rp M v d) : ∀ {vs : List V} {ds : List PyData} (i : Nat), RpA M vs ds → RpA M (vs.set i v) (ds.set i d)
  | _, _, _, .nil => .nil
  | _, _, 0, .cons _ t => .cons r t
  | _, _, i + 1, .cons q t => .cons q (RpA.set r i t)
theorem RpA.take {M : Hp} : ∀ {vs : List V} {ds : List PyData} (n : Nat), RpA M vs ds → RpA M (vs.take n) (ds.take n)
  | _, _, 0, _ => .nil
  | _, _, _ + 1, .nil => .nil
  | _, _, n + 1, .cons r t => .cons r (RpA.take n t)
theorem RpA.drop {M : Hp} : ∀ {vs : List V} {ds : List PyData} (n : Nat), RpA M vs ds → RpA M (vs.drop n) (ds.drop n)
  | _, _, 0, r => r
  | _, _, _ + 1, .nil => .nil
  | _, _, n + 1, .cons _ t => RpA.drop n t
theorem RpA.rev {M : Hp} : ∀ {vs : List V} {ds : List PyData}, RpA M vs ds → RpA M vs.reverse ds.reverse
  | _, _, .nil => .nil
  | _, _, .cons r t => by
    rw [List.reverse_cons, List.reverse_cons]
    exact (RpA.rev t).app (.one r)
theorem RpA.ints {M : Hp} : ∀ {vs : List V} {ns : List Int}, RpA M vs (ns.map PyData.int) → vs = ns.map V.int
  | [], [], _ => rfl
  | _, [], h => by cases h; rfl
  | _, n :: ns, h => by
    cases h with
    | cons r t =>
      cases r
      rw [RpA.ints t]
      rfl
theorem RpA.bools {M : Hp} : ∀ {vs : List V} {ns : List Bool}, RpA M vs (ns.map PyData.bool) → vs = ns.map V.bl
  | [], [], _ => rfl
  | _, [], h => by cases h; rfl
  | _, n :: ns, h => by
    cases h with
    | cons r t =>
      cases r
      rw [RpA.bools t]
      rfl
/-- a heap with some places hidden -/
noncomputable def msk (B : Addr → Prop) (H : Hp) : Hp := fun b => open Classical in if B b then none else H b
theorem msk_out {B : Addr → Prop} {H : Hp} {b : Addr} (n : ¬ B b) : msk B H b = H b := by
  unfold msk
  rw [if_neg n]
theorem msk_some {B : Addr → Prop} {H : Hp} {b : Addr} {o : HO} (h : msk B H b = some o) : ¬ B b ∧ H b = some o := by
  unfold msk at h
  split at h
  · cases h
  · exact ⟨by assumption, h⟩
theorem msk_le {B : Addr → Prop} {H : Hp} : Xt (msk B H) H := fun b o _ h => (msk_some h).2
/-- what a place is new ahead of: nothing stands there, or a table -/
def Fresh (H : Hp) (a : Addr) : Prop := ∀ o, H a = some o → ∃ ps, o = HO.tbl ps
theorem Fresh.of {H : Hp} {a : Addr} (h : H a = none) : Fresh H a := fun o e => by
  rw [h] at e
  cases e
/-- what a name holds, what is told: data; a list or a dict of one's own; a value as it is -/
inductive DV where
  | un | tape | raw (v : V) | d (x : PyData) | own (xs : List PyData) | dic (kvs : List (Key × PyData))
def DV.isOwn : DV → Bool
  | .own _ => true
  | .dic _ => true
  | _ => false
inductive KRp (M : Hp) : List (Key × V) → List (Key × PyData) → Prop
  | nil : KRp M [] []
  | cons {k : Key} {v : V} {d : PyData} {ws : List (Key × V)} {kvs : List (Key × PyData)} : Rp M v d → KRp M ws kvs → KRp M ((k, v) :: ws) ((k, d) :: kvs)
theorem KRp.ex {M M' : Hp} {ws : List (Key × V)} {kvs : List (Key × PyData)} (r : KRp M ws kvs) (e : Xt M M') : KRp M' ws kvs := by
  induction r with
  | nil => exact .nil
  | cons h _ ih => exact .cons (h.ex e) ih
/-- where a def stands: the heap at its entry, what its callers keep apart, what may be changed, what holds of that -/
structure EC where
  H0 : Hp
  B : Addr → Prop
  t : V
  u : V
  pins : List (V × PyData)
  PB : ∀ a, Fam.Pq u t a → B a
  Bs : ∀ a, B a → ∃ o, H0 a = some o ∧ ∀ ps, o ≠ HO.tbl ps
/-- what may be changed, what holds of it -/
def EC.P (c : EC) (a : Addr) : Prop := Fam.Pq c.u c.t a
def EC.G (c : EC) (n : Int) (H : Hp) : Prop := Fam.Tq c.u c.t H n ∧ LamX.Tabs Tabz.T H
theorem Tabs_mv {T : List (Addr × Str)} {H H' : Hp} (h : LamX.Tabs T H) (k : ∀ b o, (∀ xs, o ≠ HO.lst xs) → (∀ kvs, o ≠ HO.dK kvs) → H b = some o → H' b = some o) : LamX.Tabs T H' := fun p hp => by
  obtain ⟨ps, h1, h2, h3⟩ := h p hp
  refine ⟨ps, k _ _ (fun xs z => by cases z) (fun xs z => by cases z) h1, h2, fun pos cv hc => ?_⟩
  obtain ⟨c, e1, e2⟩ := h3 pos cv hc
  exact ⟨c, e1, k _ _ (fun xs z => by cases z) (fun xs z => by cases z) e2⟩
theorem EC.Gm (c : EC) (n : Int) (H H' : Hp) (g : c.G n H) (k : ∀ b o, (∀ xs, o ≠ HO.lst xs) → (∀ kvs, o ≠ HO.dK kvs) → H b = some o → H' b = some o) (k2 : ∀ b o, c.P b → H b = some o → H' b = some o) : c.G n H' :=
  ⟨Fam.mv g.1 k2, Tabs_mv g.2 k⟩
theorem EC.Gs (c : EC) (n : Int) (H : Hp) (a : Addr) (g : c.G n H) (p : c.P a) : ∃ o, H a = some o ∧ ∀ ps, o ≠ HO.tbl ps := by
  obtain ⟨xs, h⟩ := Fam.ty g.1 p
  exact ⟨_, h, fun ps z => by cases z⟩
def EC.av (c : EC) (A : Nat → Option Addr) : Addr → Prop := fun b => c.B b ∨ ∃ i, A i = some b
def EC.pin (c : EC) (l : List (V × PyData)) : EC := { c with pins := l ++ c.pins }
/-- what stays -/
def Fr (c : EC) (n : Int) (H H' : Hp) : Prop := (∀ b o, ¬ c.P b → (∀ ps, o ≠ HO.tbl ps) → H b = some o → H' b = some o) ∧ c.G n H'
theorem Fr.refl {c : EC} {n : Int} {H : Hp} (g : c.G n H) : Fr c n H H := ⟨fun _ _ _ _ h => h, g⟩
theorem Fr.trans {c : EC} {n m : Int} {H H1 H2 : Hp} (a : Fr c n H H1) (b : Fr c m H1 H2) : Fr c m H H2 := ⟨fun x o p q h => b.1 x o p q (a.1 x o p q h), b.2⟩
theorem Fr.msk {c : EC} {n : Int} {A : Nat → Option Addr} {H H' : Hp} (f : Fr c n H H') : Xt (msk (c.av A) H) (msk (c.av A) H') := fun b o q h => by
  obtain ⟨h1, h2⟩ := msk_some h
  rw [msk_out h1]
  exact f.1 b o (fun p => h1 (.inl (c.PB b p))) q h2
theorem Fr.new {c : EC} {n : Int} {H : Hp} {p : Addr} {o : HO} (g : c.G n H) (h : H p = none) : Fr c n H (upd H p o) := by
  refine ⟨fun b u _ _ e => ?_, c.Gm n H _ g (fun b u _ _ e => ?_) fun b u _ e => ?_⟩ <;> · rw [upd_ne (ne_of_none e h)]; exact e
/-- a name's slot -/
def SlOk (t : V) (M H : Hp) (ao : Option Addr) (s : Option (Option V)) : DV → Prop
  | .un => True
  | .tape => s = some (some t) ∧ ∃ a, t = .ref a
  | .raw v => s = some (some v)
  | .d x => ∃ v, s = some (some v) ∧ Rp M v x
  | .own ds => ∃ a vs, ao = some a ∧ s = some (some (.ref a)) ∧ H a = some (.lst vs) ∧ RpA M vs ds
  | .dic kvs => ∃ a ws, ao = some a ∧ s = some (some (.ref a)) ∧ H a = some (.dK ws) ∧ KRp M ws kvs
structure EnvA (c : EC) (A : Nat → Option Addr) (n : Int) (σ : L2.St) (H : Hp) (ρ : List DV) : Prop where
  keep : ∀ b o, ¬ c.P b → (∀ ps, o ≠ HO.tbl ps) → c.H0 b = some o → H b = some o
  g : c.G n H
  new : ∀ i a, A i = some a → Fresh c.H0 a
  has : ∀ i a, A i = some a → ∃ o, H a = some o ∧ ∀ ps, o ≠ HO.tbl ps
  inj : ∀ i j a, A i = some a → A j = some a → i = j
  slot : ∀ i x, ρ[i]? = some x → SlOk c.t (msk (c.av A) H) H (A i) (σ[i]?) x
  len : ρ.length = σ.length
  pin : ∀ p ∈ c.pins, Rp (msk (c.av A) H) p.1 p.2
  fin : ∃ N, ∀ k, N ≤ k → A k = none
  mine : ∀ i a x, A i = some a → ρ[i]? = some x → x.isOwn = true
section
variable {c : EC} {A : Nat → Option Addr} {n m : Int} {σ : L2.St} {H H' H1 : Hp} {ρ : List DV}
theorem EnvA.fr0 (E : EnvA c A n σ H ρ) : Fr c n c.H0 H := ⟨E.keep, E.g⟩
theorem EnvA.nP (E : EnvA c A n σ H ρ) {i : Nat} {a : Addr} (h : A i = some a) : ¬ c.B a := fun b => by
  obtain ⟨o, h1, h2⟩ := c.Bs a b
  obtain ⟨ps, e⟩ := E.new i a h o h1
  exact h2 ps e
theorem EnvA.there (E : EnvA c A n σ H ρ) {b : Addr} (h : c.av A b) : ∃ o, H b = some o ∧ ∀ ps, o ≠ HO.tbl ps := by
  rcases h with h | ⟨i, h⟩
  · by_cases p : c.P b
    · exact c.Gs n H b E.g p
    · obtain ⟨o, h1, h2⟩ := c.Bs b h
      exact ⟨o, E.keep b o p h2 h1, h2⟩
  · exact E.has i b h
theorem EnvA.apart (E : EnvA c A n σ H ρ) {b : Addr} (h : Fresh H b) : ¬ c.av A b := fun q => by
  obtain ⟨o, h1, h2⟩ := E.there q
  obtain ⟨ps, e⟩ := h o h1
  exact h2 ps e
theorem SlOk.ex {t : V} {M M' : Hp} {ao : Option Addr} {s : Option (Option V)} {x : DV} (h : SlOk t M H ao s x) (e : Xt M M') (k : ∀ a o, ao = some a → (∀ ps, o ≠ HO.tbl ps) → H a = some o → H' a = some o) : SlOk t M' H' ao s x := by
  cases x with
  | un => exact True.intro
  | tape => exact h
  | raw v => exact h
  | d x =>
    obtain ⟨v, h1, h2⟩ := h
    exact ⟨v, h1, h2.ex e⟩
  | own ds =>
    obtain ⟨a, vs, h1, h2, h3, h4⟩ := h
    exact ⟨a, vs, h1, h2, k a _ h1 (fun ps z => by cases z) h3, h4.ex e⟩
  | dic kvs =>
    obtain ⟨a, vs, h1, h2, h3, h4⟩ := h
    exact ⟨a, vs, h1, h2, k a _ h1 (fun ps z => by cases z) h3, h4.ex e⟩
theorem EnvA.fr (E : EnvA c A n σ H ρ) (f : Fr c m H H') : EnvA c A m σ H' ρ where
  keep := fun b o p q h => f.1 b o p q (E.keep b o p q h)
  g := f.2
  new := E.new
  has := fun i a h => by
    obtain ⟨o, h1, h2⟩ := E.has i a h
    exact ⟨o, f.1 a o (fun p => E.nP h (c.PB a p)) h2 h1, h2⟩
  inj := E.inj
  slot := fun i x h => (E.slot i x h).ex f.msk fun a o h1 h2 h3 => f.1 a o (fun p => E.nP h1 (c.PB a p)) h2 h3
  len := E.len
  pin := fun p hp => (E.pin p hp).ex f.msk
  fin := E.fin
  mine := E.mine
/-- what is told -/
def VOk (t : V) (B : Addr → Prop) (H : Hp) (v : V) (H' : Hp) : DV → Prop
  | .un => False
  | .tape => v = t ∧ ∃ a, t = .ref a
  | .raw _ => False
  | .d x => Rp (msk B H') v x
  | .own ds => ∃ a vs, v = .ref a ∧ Fresh H a ∧ H' a = some (.lst vs) ∧ RpA (msk (fun b => B b ∨ b = a) H') vs ds
  | .dic kvs => ∃ a ws, v = .ref a ∧ Fresh H a ∧ H' a = some (.dK ws) ∧ KRp (msk (fun b => B b ∨ b = a) H') ws kvs
/-- what is one's own is left as data -/
def DV.cold : DV → DV
  | .own ds => .d (.list ds)
  | x => x
theorem Fresh.fr (f : Fr c m H H') {a : Addr} (h : Fresh H' a) : Fresh H a := fun o e => by
  apply Classical.byContradiction
  intro no
  have t : ∀ ps, o ≠ HO.tbl ps := fun ps z => no ⟨ps, z⟩
  by_cases p : c.P a
  · obtain ⟨o', h1, h2⟩ := c.Gs m H' a f.2 p
    obtain ⟨ps, z⟩ := h o' h1
    exact h2 ps z
  · obtain ⟨ps, z⟩ := h o (f.1 a o p t e)
    exact t ps z
theorem VOk.mono (E : EnvA c A n σ H ρ) (f : Fr c m H H1) {v : V} {x : DV} (h : VOk c.t (c.av A) H1 v H' x) : VOk c.t (c.av A) H v H' x := by
  cases x with
  | un => exact h
  | tape => exact h
  | raw v => exact h
  | d x => exact h
  | own ds =>
    obtain ⟨a, vs, h1, h2, h3, h4⟩ := h
    exact ⟨a, vs, h1, h2.fr f, h3, h4⟩
  | dic kvs =>
    obtain ⟨a, vs, h1, h2, h3, h4⟩ := h
    exact ⟨a, vs, h1, h2.fr f, h3, h4⟩
/-- later it stands as it stood -/
theorem VOk.later (E : EnvA c A n σ H ρ) {m' : Int} {v : V} {x : DV} (h : VOk c.t (c.av A) H v H1 x) (f : Fr c m H H1) (f' : Fr c m' H1 H') : VOk c.t (c.av A) H v H' x := by
  have ap : ∀ {a : Addr}, Fresh H a → ¬ c.P a := fun fr p => E.apart fr (.inl (c.PB _ p))
  have xt : ∀ {a : Addr}, Xt (msk (fun b => c.av A b ∨ b = a) H1) (msk (fun b => c.av A b ∨ b = a) H') := fun {a} b o q h => by
    obtain ⟨h1, h2⟩ := msk_some h
    rw [msk_out h1]
    exact f'.1 b o (fun p => h1 (.inl (.inl (c.PB b p)))) q h2
  cases x with
  | un => exact h
  | tape => exact h
  | raw v => exact h
  | d x => exact Rp.ex h f'.msk
  | own ds =>
    obtain ⟨a, vs, h1, h2, h3, h4⟩ := h
    exact ⟨a, vs, h1, h2, f'.1 a _ (ap h2) (fun ps z => by cases z) h3, h4.ex xt⟩
  | dic kvs =>
    obtain ⟨a, vs, h1, h2, h3, h4⟩ := h
    exact ⟨a, vs, h1, h2, f'.1 a _ (ap h2) (fun ps z => by cases z) h3, h4.ex xt⟩
theorem VOk.cold (E : EnvA c A n σ H ρ) {v : V} {x : DV} (h : VOk c.t (c.av A) H v H' x) : VOk c.t (c.av A) H v H' x.cold := by
  cases x with
  | own ds =>
    obtain ⟨a, vs, rfl, h2, h3, h4⟩ := h
    refine .lst (by rw [msk_out (E.apart h2)]; exact h3) (h4.ex fun b o _ e => ?_)
    obtain ⟨h5, h6⟩ := msk_some e
    rw [msk_out fun z => h5 (.inl z)]
    exact h6
  | un => exact h
  | tape => exact h
  | raw v => exact h
  | d x => exact h
  | dic kvs => exact h
end
end

/-! ### data readings: expressions -/
section
variable [Fam] [Tabz]
abbrev DQ := DV → Int → Prop
abbrev DF := List DV → Int → DQ → Prop
abbrev DT := List DV → Int → (Bool → Int → Prop) → Prop
abbrev DA := List DV → Int → (List DV → Int → Prop) → Prop
def tD (f : DF) : TE := fun σ H Q => ∃ (c : EC) (A : Nat → Option Addr) (n : Int) (ρ : List DV) (Q' : DQ), EnvA c A n σ H ρ ∧ f ρ n Q' ∧ ∀ v r n' H', Q' r n' → Fr c n' H H' → VOk c.t (c.av A) H v H' r → Q v H'
def tDT (f : DT) : TT := fun σ H Q => ∃ (c : EC) (A : Nat → Option Addr) (n : Int) (ρ : List DV) (Q' : Bool → Int → Prop), EnvA c A n σ H ρ ∧ f ρ n Q' ∧ ∀ b n' H', Q' b n' → Fr c n' H H' → Q b H'
/-- arguments: what is one's own is told as data -/
inductive VsOk (t : V) (B : Addr → Prop) (H : Hp) (H' : Hp) : List V → List DV → Prop
  | nil : VsOk t B H H' [] []
  | cons {v : V} {r : DV} {vs : List V} {rs : List DV} : VOk t B H v H' r → r.cold = r → VsOk t B H H' vs rs → VsOk t B H H' (v :: vs) (r :: rs)
def tDA (f : DA) : TA := fun σ H Q => ∃ (c : EC) (A : Nat → Option Addr) (n : Int) (ρ : List DV) (Q' : List DV → Int → Prop), EnvA c A n σ H ρ ∧ f ρ n Q' ∧ ∀ vs rs n' H', Q' rs n' → Fr c n' H H' → VsOk c.t (c.av A) H H' vs rs → Q vs H'
theorem _root_.L2.PE.imp {X : Cx} {e : Expr} {t t' : TE} (h : PE X e t) (i : ∀ σ H Q, t' σ H Q → t σ H Q) : PE X e t' := ⟨fun pins s σ H Q I q => h.run pins s σ H Q I (i σ H Q q)⟩
theorem _root_.L2.PT.imp {X : Cx} {e : Expr} {t t' : TT} (h : PT X e t) (i : ∀ σ H Q, t' σ H Q → t σ H Q) : PT X e t' := ⟨fun pins s σ H Q I q => h.run pins s σ H Q I (i σ H Q q)⟩
theorem _root_.L2.PW.imp {X : Cx} {e : Expr} {t t' : TT} (h : PW X e t) (i : ∀ σ H Q, t' σ H Q → t σ H Q) : PW X e t' := ⟨fun whole pins s σ H Q I q => h.run whole pins s σ H Q I (i σ H Q q)⟩
theorem _root_.L2.PA.imp {X : Cx} {es : List Expr} {t t' : TA} (h : PA X es t) (i : ∀ σ H Q, t' σ H Q → t σ H Q) : PA X es t' := ⟨fun pos pins s σ H Q I q => h.run pos pins s σ H Q I (i σ H Q q)⟩
theorem _root_.L2.PSs.imp {X : Cx} {st : List Stmt} {t t' : TS} (h : PSs X st t) (i : ∀ D σ H, t' D σ H → t D σ H) : PSs X st t' := ⟨fun pins s σ H D I q => h.run pins s σ H D I (i D σ H q)⟩
theorem _root_.L2.PS.imp {X : Cx} {st : Stmt} {t t' : TS} (h : PS X st t) (i : ∀ D σ H, t' D σ H → t D σ H) : PS X st t' := ⟨fun pins s σ H D I q => h.run pins s σ H D I (i D σ H q)⟩

/-- a name -/
def dV (i : Nat) : DF := fun ρ n Q => (∃ d, ρ[i]? = some (.d d) ∧ Q (.d d) n) ∨ (ρ[i]? = some .tape ∧ Q .tape n)
theorem pdV {X : Cx} {i : Nat} {e : Expr} (h : PE X e (tVar i)) : PE X e (tD (dV i)) := h.imp fun σ H Q ⟨c, A, n, ρ, Q', E, hf, k⟩ => by
  rcases hf with ⟨d, h1, h2⟩ | ⟨h1, h2⟩
  · obtain ⟨v, h3, h4⟩ := E.slot i _ h1
    exact ⟨v, h3, k v _ n H h2 (.refl E.g) h4⟩
  · exact ⟨c.t, (E.slot i _ h1).1, k c.t _ n H h2 (.refl E.g) ⟨rfl, (E.slot i _ h1).2⟩⟩
def dC (d : PyData) : DF := fun _ n Q => Q (.d d) n
def datC : V → Option PyData
  | .non => some .none
  | .bl b => some (.bool b)
  | .int i => some (.int i)
  | .str x => some (.str x)
  | _ => none
theorem datC_rp {v : V} {d : PyData} {M : Hp} (h : datC v = some d) : Rp M v d := by
  cases v <;> simp [datC] at h <;> subst h <;> constructor
theorem pdC {X : Cx} {v : V} {d : PyData} {e : Expr} (h : PE X e (tC v)) (hd : datC v = some d := by rfl) : PE X e (tD (dC d)) := h.imp fun σ H Q ⟨c, A, n, ρ, Q', E, hf, k⟩ => k v _ n H hf (.refl E.g) (datC_rp hd)
/-- what is told, as data -/
def DV.dat : DV → Option PyData
  | .d x => some x
  | .own ds => some (.list ds)
  | _ => none
theorem VOk.dat {c : EC} {A : Nat → Option Addr} {n : Int} {σ : L2.St} {H H' : Hp} {ρ : List DV} (E : EnvA c A n σ H ρ) {v : V} {x : DV} {d : PyData} (h : VOk c.t (c.av A) H v H' x) (e : x.dat = some d) : Rp (msk (c.av A) H') v d := by
  have q := h.cold E
  cases x with
  | d y =>
    cases e
    exact q
  | own ds =>
    cases e
    exact q
  | _ => cases e
/-- operators by values -/
def R2D (r : R2) (op : PyData → PyData → Option DV) : Prop := ∀ (t : V) (B : Addr → Prop) (H : Hp) (v w : V) (a b : PyData) (z : DV) (Q : VK), (∀ b, B b → ∃ o, H b = some o) → Rp (msk B H) v a → Rp (msk B H) w b → op a b = some z →
  (∀ u H', (∀ p o, H p = some o → H' p = some o) → VOk t B H u H' z → Q u H') → r v w H Q
def R1D (r : V → Hp → VK → Prop) (op : PyData → Option DV) : Prop := ∀ (t : V) (B : Addr → Prop) (H : Hp) (v : V) (a : PyData) (z : DV) (Q : VK), (∀ b, B b → ∃ o, H b = some o) → Rp (msk B H) v a → op a = some z →
  (∀ u H', (∀ p o, H p = some o → H' p = some o) → VOk t B H u H' z → Q u H') → r v H Q
theorem Fr.same {c : EC} {n : Int} {H H' : Hp} (g : c.G n H) (s : ∀ p o, H p = some o → H' p = some o) : Fr c n H H' := ⟨fun b o _ _ h => s b o h, c.Gm n H H' g (fun b o _ _ h => s b o h) fun b o _ h => s b o h⟩
def dBin (op : PyData → PyData → Option DV) (f g : DF) : DF := fun ρ n Q => f ρ n fun x n1 => g ρ n1 fun y n2 => ∃ a, x.dat = some a ∧ ∃ b, y.dat = some b ∧ ∃ z, op a b = some z ∧ Q z n2
def dUn (op : PyData → Option DV) (f : DF) : DF := fun ρ n Q => f ρ n fun x n1 => ∃ a, x.dat = some a ∧ ∃ z, op a = some z ∧ Q z n1
theorem bin_le {r : R2} {op : PyData → PyData → Option DV} {f g : DF} (h : R2D r op) (σ : L2.St) (H : Hp) (Q : VK) (q : tD (dBin op f g) σ H Q) : tOp r (tD f) (tD g) σ H Q := by
  obtain ⟨c, A, n, ρ, Q', E, hf, k⟩ := q
  refine ⟨c, A, n, ρ, _, E, hf, fun v x n1 H1 hg f1 o1 => ⟨c, A, n1, ρ, _, E.fr f1, hg, fun w y n2 H2 hz f2 o2 => ?_⟩⟩
  obtain ⟨a, ea, b, eb, z, ez, hq⟩ := hz
  have E2 := (E.fr f1).fr f2
  refine h c.t (c.av A) H2 v w a b z Q (fun b hb => (E2.there hb).imp fun o h => h.1) ((o1.later E f1 f2).dat E ea) (o2.dat (E.fr f1) eb) ez fun u H' s o => ?_
  have f3 := Fr.same (H' := H') E2.g s
  exact k u z n2 H' hq ((f1.trans f2).trans f3) (VOk.mono E (f1.trans f2) o)
theorem un_le {r : V → Hp → VK → Prop} {op : PyData → Option DV} {f : DF} (h : R1D r op) (σ : L2.St) (H : Hp) (Q : VK) (q : tD (dUn op f) σ H Q) : tUn r (tD f) σ H Q := by
  obtain ⟨c, A, n, ρ, Q', E, hf, k⟩ := q
  refine ⟨c, A, n, ρ, _, E, hf, fun v x n1 H1 hz f1 o1 => ?_⟩
  obtain ⟨a, ea, z, ez, hq⟩ := hz
  have E1 := E.fr f1
  refine h c.t (c.av A) H1 v a z Q (fun b hb => (E1.there hb).imp fun o h => h.1) (o1.dat E ea) ez fun u H' s o => ?_
  exact k u z n1 H' hq (f1.trans (Fr.same E1.g s)) (VOk.mono E f1 o)
theorem pdOp {X : Cx} {o : Operator} {r : R2} {op : PyData → PyData → Option DV} {a b : Expr} {f g : DF} {pos : Pos} (hd : R2D r op) (ho : OpR X (binaryOp o) r) (ha : PE X a (tD f)) (hb : PE X b (tD g)) : PE X (.BinOp a o b pos) (tD (dBin op f g)) := (pe_op ho ha hb).imp (bin_le hd)
theorem pdCmp {X : Cx} {o : CmpOp} {r : R2} {op : PyData → PyData → Option DV} {a b : Expr} {f g : DF} {pos : Pos} (hd : R2D r op) (ho : OpR X (compareOp o) r) (ha : PE X a (tD f)) (hb : PE X b (tD g)) (hm : behindInMarks o b = false) : PE X (.Compare a [o] [b] pos) (tD (dBin op f g)) := (pe_cmpR ho ha hb hm).imp (bin_le hd)
theorem pdIx {X : Cx} {r : R2} {op : PyData → PyData → Option DV} {a b : Expr} {f g : DF} {pos : Pos} (hd : R2D r op) (hr : IxR X r) (ha : PE X a (tD f)) (hb : PE X b (tD g)) (hs : PlainIx b) : PE X (.Subscript a b pos) (tD (dBin op f g)) := (pe_ix hr ha hb hs).imp (bin_le hd)
theorem pdUn {X : Cx} {o : UnaryOp} {r : V → Hp → VK → Prop} {op : PyData → Option DV} {a : Expr} {f : DF} {pos : Pos} (hd : R1D r op) (ho : UnR X (unaryOp o) r) (ha : PE X a (tD f)) : PE X (.UnaryOp o a pos) (tD (dUn op f)) := (pe_un ho ha).imp (un_le hd)
/-- tests -/
def dTest (f : DF) : DT := fun ρ n Q => f ρ n fun x n1 => ∃ b, x = .d (.bool b) ∧ Q b n1
theorem test_le {te : TE} {f : DF} (h : ∀ σ H Q, tD f σ H Q → te σ H Q) (σ : L2.St) (H : Hp) (Q : Bool → Hp → Prop) (q : tDT (dTest f) σ H Q) : te σ H fun x H1 => ∃ b, x = .bl b ∧ Q b H1 := by
  obtain ⟨c, A, n, ρ, Q', E, hf, k⟩ := q
  refine h σ H _ ⟨c, A, n, ρ, _, E, hf, fun v r n' H' ⟨b, e, hq⟩ f1 o1 => ?_⟩
  subst e
  cases o1
  exact ⟨b, rfl, k b n' H' hq f1⟩
theorem ptCmp {X : Cx} {o : CmpOp} {r : R2} {op : PyData → PyData → Option DV} {a b : Expr} {f g : DF} {pos : Pos} (hd : R2D r op) (ho : OpR X (compareOp o) r) (ha : PE X a (tD f)) (hb : PE X b (tD g)) (hm : behindInMarks o b = false) : PT X (.Compare a [o] [b] pos) (tDT (dTest (dBin op f g))) :=
  (pt_cmpR ho ha hb hm).imp fun σ H Q q => test_le (bin_le hd) σ H Q q
theorem ptVal {X : Cx} {e : Expr} {f : DF} (h : PE X e (tD f)) (he : ∀ whole, isTrue e X.env whole = (do let v ← whole; standAt e.pos; holding [v] (truthy v)) := by intro _; rfl) : PT X e (tDT (dTest f)) := (pt_val h he).imp fun σ H Q q => test_le (fun _ _ _ z => z) σ H Q q
def dNot (t : DT) : DT := fun ρ n Q => t ρ n fun b n1 => Q (!b) n1
def dAnd (t u : DT) : DT := fun ρ n Q => t ρ n fun b n1 => if b = true then u ρ n1 Q else Q false n1
def dOr (t u : DT) : DT := fun ρ n Q => t ρ n fun b n1 => if b = true then Q true n1 else u ρ n1 Q
theorem not_le {t : DT} (σ : L2.St) (H : Hp) (Q : Bool → Hp → Prop) (q : tDT (dNot t) σ H Q) : tNot (tDT t) σ H Q := by
  obtain ⟨c, A, n, ρ, Q', E, hf, k⟩ := q
  exact ⟨c, A, n, ρ, _, E, hf, fun b n' H' hq f1 => k _ n' H' hq f1⟩
theorem and_le {t u : DT} (σ : L2.St) (H : Hp) (Q : Bool → Hp → Prop) (q : tDT (dAnd t u) σ H Q) : tAnd (tDT t) (tDT u) σ H Q := by
  obtain ⟨c, A, n, ρ, Q', E, hf, k⟩ := q
  refine ⟨c, A, n, ρ, _, E, hf, fun b n' H' hq f1 => ?_⟩
  cases b with
  | true => exact ⟨c, A, n', ρ, Q', E.fr f1, hq, fun b2 n2 H2 h2 f2 => k b2 n2 H2 h2 (f1.trans f2)⟩
  | false => exact k false n' H' hq f1
theorem or_le {t u : DT} (σ : L2.St) (H : Hp) (Q : Bool → Hp → Prop) (q : tDT (dOr t u) σ H Q) : tOr (tDT t) (tDT u) σ H Q := by
  obtain ⟨c, A, n, ρ, Q', E, hf, k⟩ := q
  refine ⟨c, A, n, ρ, _, E, hf, fun b n' H' hq f1 => ?_⟩
  cases b with
  | false => exact ⟨c, A, n', ρ, Q', E.fr f1, hq, fun b2 n2 H2 h2 f2 => k b2 n2 H2 h2 (f1.trans f2)⟩
  | true => exact k true n' H' hq f1
theorem ptNot {X : Cx} {a : Expr} {t : DT} {pos : Pos} (h : PT X a (tDT t)) : PT X (.UnaryOp .Not a pos) (tDT (dNot t)) := (pt_not h).imp not_le
theorem pwAnd1 {X : Cx} {a : Expr} {t : DT} {pos : Pos} (h : PT X a (tDT t)) : PW X (.BoolOp .And [a] pos) (tDT t) := pw_and1 h
theorem pwOr1 {X : Cx} {a : Expr} {t : DT} {pos : Pos} (h : PT X a (tDT t)) : PW X (.BoolOp .Or [a] pos) (tDT t) := pw_or1 h
theorem pwAnd {X : Cx} {a b : Expr} {rest : List Expr} {t u : DT} {pos : Pos} (h : PT X a (tDT t)) (h2 : PW X (.BoolOp .And (b :: rest) pos) (tDT u)) : PW X (.BoolOp .And (a :: b :: rest) pos) (tDT (dAnd t u)) := (pw_and h h2).imp and_le
theorem pwOr {X : Cx} {a b : Expr} {rest : List Expr} {t u : DT} {pos : Pos} (h : PT X a (tDT t)) (h2 : PW X (.BoolOp .Or (b :: rest) pos) (tDT u)) : PW X (.BoolOp .Or (a :: b :: rest) pos) (tDT (dOr t u)) := (pw_or h h2).imp or_le
def dIf (t : DT) (f g : DF) : DF := fun ρ n Q => t ρ n fun b n1 => if b = true then f ρ n1 Q else g ρ n1 Q
theorem pdIf {X : Cx} {c a b : Expr} {t : DT} {f g : DF} {pos : Pos} (hc : PT X c (tDT t)) (ha : PE X a (tD f)) (hb : PE X b (tD g)) : PE X (.IfExp c a b pos) (tD (dIf t f g)) := (pe_ifExp hc ha hb).imp fun σ H Q ⟨c, A, n, ρ, Q', E, hf, k⟩ => by
  refine ⟨c, A, n, ρ, _, E, hf, fun b n' H' hq f1 => ?_⟩
  cases b with
  | true => exact ⟨c, A, n', ρ, Q', E.fr f1, hq, fun v r n2 H2 h2 f2 o2 => k v r n2 H2 h2 (f1.trans f2) (VOk.mono E f1 o2)⟩
  | false => exact ⟨c, A, n', ρ, Q', E.fr f1, hq, fun v r n2 H2 h2 f2 o2 => k v r n2 H2 h2 (f1.trans f2) (VOk.mono E f1 o2)⟩
/-- truth values joined, not -/
def dAndV (f g : DF) : DF := fun ρ n Q => f ρ n fun x n1 => ∃ b, x = .d (.bool b) ∧ if b = true then g ρ n1 Q else Q (.d (.bool false)) n1
def dOrV (f g : DF) : DF := fun ρ n Q => f ρ n fun x n1 => ∃ b, x = .d (.bool b) ∧ if b = true then Q (.d (.bool true)) n1 else g ρ n1 Q
def dNotV (f : DF) : DF := fun ρ n Q => f ρ n fun x n1 => ∃ b, x = .d (.bool b) ∧ Q (.d (.bool (!b))) n1
theorem pdAnd {X : Cx} {a b : Expr} {rest : List Expr} {f g : DF} {pos : Pos} (ha : PE X a (tD f)) (hb : PE X (.BoolOp .And (b :: rest) pos) (tD g)) : PE X (.BoolOp .And (a :: b :: rest) pos) (tD (dAndV f g)) := (pe_and ha hb).imp fun σ H Q ⟨c, A, n, ρ, Q', E, hf, k⟩ => by
  refine ⟨c, A, n, ρ, _, E, hf, fun v r n' H' ⟨b, e, hq⟩ f1 o1 => ?_⟩
  subst e
  cases o1
  refine ⟨b, rfl, ?_⟩
  cases b with
  | true => exact ⟨c, A, n', ρ, Q', E.fr f1, hq, fun v r n2 H2 h2 f2 o2 => k v r n2 H2 h2 (f1.trans f2) (VOk.mono E f1 o2)⟩
  | false => exact k _ _ n' H' hq f1 (Rp.bl false)
theorem pdOr {X : Cx} {a b : Expr} {rest : List Expr} {f g : DF} {pos : Pos} (ha : PE X a (tD f)) (hb : PE X (.BoolOp .Or (b :: rest) pos) (tD g)) : PE X (.BoolOp .Or (a :: b :: rest) pos) (tD (dOrV f g)) := (pe_or ha hb).imp fun σ H Q ⟨c, A, n, ρ, Q', E, hf, k⟩ => by
  refine ⟨c, A, n, ρ, _, E, hf, fun v r n' H' ⟨b, e, hq⟩ f1 o1 => ?_⟩
  subst e
  cases o1
  refine ⟨b, rfl, ?_⟩
  cases b with
  | false => exact ⟨c, A, n', ρ, Q', E.fr f1, hq, fun v r n2 H2 h2 f2 o2 => k v r n2 H2 h2 (f1.trans f2) (VOk.mono E f1 o2)⟩
  | true => exact k _ _ n' H' hq f1 (Rp.bl true)
theorem pdNot {X : Cx} {a : Expr} {f : DF} {pos : Pos} (ha : PE X a (tD f)) : PE X (.UnaryOp .Not a pos) (tD (dNotV f)) := (pe_not ha).imp fun σ H Q ⟨c, A, n, ρ, Q', E, hf, k⟩ => by
  refine ⟨c, A, n, ρ, _, E, hf, fun v r n' H' ⟨b, e, hq⟩ f1 o1 => ?_⟩
  subst e
  cases o1
  exact ⟨b, rfl, k _ _ n' H' hq f1 (Rp.bl _)⟩
/-- arguments -/
def dNil : DA := fun _ n Q => Q [] n
def dCons (f : DF) (g : DA) : DA := fun ρ n Q => f ρ n fun x n1 => g ρ n1 fun xs n2 => Q (x.cold :: xs) n2
theorem VsOk.mono {c : EC} {A : Nat → Option Addr} {n m : Int} {σ : L2.St} {H H1 H' : Hp} {ρ : List DV} (E : EnvA c A n σ H ρ) (f : Fr c m H H1) : ∀ {vs : List V} {rs : List DV}, VsOk c.t (c.av A) H1 H' vs rs → VsOk c.t (c.av A) H H' vs rs
  | _, _, .nil => .nil
  | _, _, .cons h e t => .cons (h.mono E f) e (VsOk.mono E f t)
theorem cold_cold (r : DV) : r.cold.cold = r.cold := by cases r <;> rfl
theorem paNil {X : Cx} : PA X [] (tDA dNil) := pa_nil.imp fun σ H Q ⟨c, A, n, ρ, Q', E, hf, k⟩ => k [] [] n H hf (.refl E.g) .nil
theorem paCons {X : Cx} {e : Expr} {es : List Expr} {f : DF} {g : DA} (ha : PE X e (tD f)) (hr : PA X es (tDA g)) (hs : starEach (e :: es) X.env = (false, eval e X.env) :: starEach es X.env := by rfl) : PA X (e :: es) (tDA (dCons f g)) := (pa_cons ha hr hs).imp fun σ H Q ⟨c, A, n, ρ, Q', E, hf, k⟩ => by
  refine ⟨c, A, n, ρ, _, E, hf, fun v x n1 H1 hg f1 o1 => ⟨c, A, n1, ρ, _, E.fr f1, hg, fun vs rs n2 H2 hq f2 o2 => ?_⟩⟩
  exact k (v :: vs) _ n2 H2 hq (f1.trans f2) (.cons ((o1.later E f1 f2).cold E) (cold_cold _) (o2.mono E f1))
/-- all of them data -/
def datsOf : List DV → Option (List PyData)
  | [] => some []
  | x :: xs => match x.dat, datsOf xs with
    | some d, some ds => some (d :: ds)
    | _, _ => none
theorem VsOk.dats {c : EC} {A : Nat → Option Addr} {n : Int} {σ : L2.St} {H H' : Hp} {ρ : List DV} (E : EnvA c A n σ H ρ) : ∀ {vs : List V} {rs : List DV} {ds : List PyData}, VsOk c.t (c.av A) H H' vs rs → datsOf rs = some ds → RpA (msk (c.av A) H') vs ds
  | _, _, _, .nil, e => by
    cases e
    exact .nil
  | _, _, ds, .cons (r := r) (rs := rs) h _ t, e => by
    unfold datsOf at e
    split at e
    · cases e
      exact .cons (h.dat E (by assumption)) (VsOk.dats E t (by assumption))
    · cases e
/-- displays -/
def dLst (g : DA) : DF := fun ρ n Q => g ρ n fun rs n1 => ∃ ds, datsOf rs = some ds ∧ ds.length ≤ 100000 ∧ Q (.own ds) n1
def dTup (g : DA) : DF := fun ρ n Q => g ρ n fun rs n1 => ∃ ds, datsOf rs = some ds ∧ ds.length ≤ 100000 ∧ Q (.d (.tuple ds)) n1
theorem big_line {n : Nat} (h : n ≤ 100000) : n ≤ sizeLine := Nat.le_trans h (by decide)
theorem big_lt {n : Nat} (h : n < 100000) : n < sizeLine := Nat.lt_of_lt_of_le h (by decide)
theorem own_new {c : EC} {A : Nat → Option Addr} {n : Int} {σ : L2.St} {H : Hp} {ρ : List DV} (E : EnvA c A n σ H ρ) {p : Addr} {vs : List V} {ds : List PyData} (hp : H p = none) (h : RpA (msk (c.av A) H) vs ds) : VOk c.t (c.av A) H (.ref p) (upd H p (.lst vs)) (.own ds) := by
  refine ⟨p, vs, rfl, .of hp, upd_same, h.ex fun b o _ e => ?_⟩
  obtain ⟨h1, h2⟩ := msk_some e
  have ne : b ≠ p := ne_of_none h2 hp
  rw [msk_out (fun z => z.elim h1 ne), upd_ne ne]
  exact h2
theorem tup_new {c : EC} {A : Nat → Option Addr} {n : Int} {σ : L2.St} {H : Hp} {ρ : List DV} (E : EnvA c A n σ H ρ) {p : Addr} {vs : List V} {ds : List PyData} (hp : H p = none) (h : RpA (msk (c.av A) H) vs ds) : VOk c.t (c.av A) H (.ref p) (upd H p (.tup vs)) (.d (.tuple ds)) := by
  refine .tup (by rw [msk_out (E.apart (.of hp))]; exact upd_same) (h.ex fun b o _ e => ?_)
  obtain ⟨h1, h2⟩ := msk_some e
  have ne : b ≠ p := ne_of_none h2 hp
  rw [msk_out h1, upd_ne ne]
  exact h2
theorem pdLst {X : Cx} {es : List Expr} {g : DA} {pos : Pos} (h : PA X es (tDA g)) : PE X (.List es pos) (tD (dLst g)) := (pe_lst h).imp fun σ H Q ⟨c, A, n, ρ, Q', E, hf, k⟩ => by
  refine ⟨c, A, n, ρ, _, E, hf, fun vs rs n1 H1 ⟨ds, e1, e2, hq⟩ f1 o1 => ?_⟩
  have r := o1.dats E e1
  refine ⟨big_line (by rw [r.length]; exact e2), fun p hp => ?_⟩
  have E1 := E.fr f1
  exact k _ _ n1 _ hq (f1.trans (Fr.new E1.g hp)) (VOk.mono E f1 (own_new E1 hp r))
theorem pdTup {X : Cx} {es : List Expr} {g : DA} {pos : Pos} {x1} (h : PA X es (tDA g)) : PE X (.Tuple es x1 pos) (tD (dTup g)) := (pe_tup h).imp fun σ H Q ⟨c, A, n, ρ, Q', E, hf, k⟩ => by
  refine ⟨c, A, n, ρ, _, E, hf, fun vs rs n1 H1 ⟨ds, e1, e2, hq⟩ f1 o1 => ?_⟩
  have r := o1.dats E e1
  refine ⟨big_line (by rw [r.length]; exact e2), fun p hp => ?_⟩
  have E1 := E.fr f1
  exact k _ _ n1 _ hq (f1.trans (Fr.new E1.g hp)) (VOk.mono E f1 (tup_new E1 hp r))
/-- calls of what is known by values, all data -/
def RsD (r : List V → Hp → VK → Prop) (op : List PyData → Option DV) : Prop := ∀ (t : V) (B : Addr → Prop) (H : Hp) (vs : List V) (as : List PyData) (z : DV) (Q : VK), (∀ b, B b → ∃ o, H b = some o) → RpA (msk B H) vs as → op as = some z →
  (∀ u H', (∀ p o, H p = some o → H' p = some o) → VOk t B H u H' z → Q u H') → r vs H Q
def dB (op : List PyData → Option DV) (g : DA) : DF := fun ρ n Q => g ρ n fun rs n1 => ∃ ds, datsOf rs = some ds ∧ ∃ z, op ds = some z ∧ Q z n1
theorem cb_le {r : List V → Hp → VK → Prop} {op : List PyData → Option DV} {g : DA} (h : RsD r op) (σ : L2.St) (H : Hp) (Q : VK) (q : tD (dB op g) σ H Q) : tCB r (tDA g) σ H Q := by
  obtain ⟨c, A, n, ρ, Q', E, hf, k⟩ := q
  refine ⟨c, A, n, ρ, _, E, hf, fun vs rs n1 H1 ⟨ds, e1, z, ez, hq⟩ f1 o1 => ?_⟩
  have E1 := E.fr f1
  refine h c.t (c.av A) H1 vs ds z Q (fun b hb => (E1.there hb).imp fun o h => h.1) (o1.dats E e1) ez fun u H' s o => ?_
  exact k u z n1 H' hq (f1.trans (Fr.same E1.g s)) (VOk.mono E f1 o)
theorem pdB {X : Cx} {id : String} {x : Str} {p pos : Pos} {e : Expr} {es : List Expr} {r : List V → Hp → VK → Prop} {op : List PyData → Option DV} {g : DA} (hd : RsD r op) (hc : CallR X (.builtin id) r) (hg : Gl X x) (hm : X.mg x = none) (hv : bootBuiltins x = some (.builtin id)) (ha : PA X (e :: es) (tDA g)) (hn : x ≠ "__name__" := by decide) (hdb : (x == ("__debug__" : Str)) = false := by decide)
    (he : starEach (e :: es) X.env = (false, eval e X.env) :: starEach es X.env := by rfl) (hpl : (backTo pos (starEach es X.env)).any (·.1) = false := by rfl) : PE X (.Call (.Name x p) (e :: es) [] pos) (tD (dB op g)) := (pe_callB hc hg hm hv ha hn hdb he hpl).imp (cb_le hd)
theorem pdTy {X : Cx} {T : String} {x : Str} {p pos : Pos} {e : Expr} {es : List Expr} {r : List V → Hp → VK → Prop} {op : List PyData → Option DV} {g : DA} (hd : RsD r op) (hc : CallR X (.type T) r) (hg : Gl X x) (hm : X.mg x = none) (hv : bootBuiltins x = some (.type T)) (ha : PA X (e :: es) (tDA g)) (hn : x ≠ "__name__" := by decide) (hdb : (x == ("__debug__" : Str)) = false := by decide)
    (he : starEach (e :: es) X.env = (false, eval e X.env) :: starEach es X.env := by rfl) (hpl : (backTo pos (starEach es X.env)).any (·.1) = false := by rfl) : PE X (.Call (.Name x p) (e :: es) [] pos) (tD (dB op g)) := (pe_callTy hc hg hm hv ha hn hdb he hpl).imp (cb_le hd)
/-- calls of defs -/
abbrev DM := List DV → Int → DQ → Prop
def spD (m : DM) : Sp := fun vs H Q _ => ∃ (c : EC) (n : Int) (rs : List DV) (Q' : DQ), c.H0 = H ∧ c.G n H ∧ c.pins = [] ∧ VsOk c.t c.B H H vs rs ∧ m rs n Q' ∧ ∀ v r n' H', Q' r n' → Fr c n' H H' → VOk c.t c.B H v H' r → Q v H'
def dCall (m : DM) (g : DA) : DF := fun ρ n Q => g ρ n fun rs n1 => m rs n1 Q
/-- the caller's place as the callee's -/
def EnvA.ec {c : EC} {A : Nat → Option Addr} {n : Int} {σ : L2.St} {H : Hp} {ρ : List DV} (E : EnvA c A n σ H ρ) : EC :=
  { H0 := H, B := c.av A, t := c.t, u := c.u, pins := [], PB := fun a p => .inl (c.PB a p), Bs := fun a h => E.there h }
theorem VsOk.now {c : EC} {A : Nat → Option Addr} {n m : Int} {σ : L2.St} {H H1 : Hp} {ρ : List DV} (E : EnvA c A n σ H ρ) : ∀ {vs : List V} {rs : List DV}, VsOk c.t (c.av A) H H1 vs rs → (∀ r ∈ rs, (∃ d, r = .d d) ∨ r = DV.tape) → VsOk c.t (c.av A) H1 H1 vs rs
  | _, _, .nil, _ => .nil
  | _, _, .cons (r := r) h ec t, a => by
    refine .cons ?_ ec (VsOk.now (m := m) E t fun r hr => a r (List.mem_cons_of_mem _ hr))
    rcases a _ List.mem_cons_self with ⟨d, e⟩ | e <;> rw [e] at h ⊢ <;> exact h
def plainR (rs : List DV) : Prop := ∀ r ∈ rs, (∃ d, r = .d d) ∨ r = DV.tape
theorem call_le {m : DM} {g : DA} (hpl : ∀ rs n Q, m rs n Q → plainR rs) (E0 : XK) (σ : L2.St) (H : Hp) (Q : VK) (q : tD (dCall m g) σ H Q) : tCall (spD m) [] E0 (tDA g) σ H Q := by
  obtain ⟨c, A, n, ρ, Q', E, hf, k⟩ := q
  refine ⟨c, A, n, ρ, _, E, hf, fun vs rs n1 H1 hm f1 o1 => ?_⟩
  have E1 := E.fr f1
  show spD m (vs ++ []) H1 Q E0
  rw [List.append_nil]
  refine ⟨E1.ec, n1, rs, Q', rfl, E1.g, rfl, o1.now (m := n1) E (hpl _ _ _ hm), hm, fun v r n' H' hq f2 o2 => ?_⟩
  exact k v r n' H' hq (f1.trans f2) (VOk.mono E f1 o2)
theorem pdCall {X : Cx} {CX : CXT} {k : Nat} {f : Addr} {fd : FuncData} {ps : List Str} {m : DM} {x : Str} {p pos : Pos} {e : Expr} {es : List Expr} {g : DA} {E0 : XK} (hpl : ∀ rs n Q, m rs n Q → plainR rs) (F : FnOk X.prog X.w X.K X.mg X.base CX k f fd ps (spD m)) (hr : Room k X.A) (hg : Gl X x) (hm : X.mg x = some (.ref f)) (hk : PySem.W.keepIn X.K (.ref f) = true) (hb : Binds X.K fd ps []) (hx : Passes CX X E0)
    (ha : PA X (e :: es) (tDA g)) (hdb : (x == ("__debug__" : Str)) = false := by decide) (he : starEach (e :: es) X.env = (false, eval e X.env) :: starEach es X.env := by rfl) (hpl2 : (backTo pos (starEach es X.env)).any (·.1) = false := by rfl) :
    PE X (.Call (.Name x p) (e :: es) [] pos) (tD (dCall m g)) := (pe_call F hr hg hm hk hb .nil hx ha hdb he hpl2).imp (call_le hpl E0)
end

/-! ### data readings: statements -/
section
variable [Fam] [Tabz]
section
variable {c : EC} {A : Nat → Option Addr} {n m : Int} {σ : L2.St} {H H' H1 : Hp} {ρ : List DV}
theorem EnvA.put' (E : EnvA c A n σ H ρ) (f : Fr c m H H') {i : Nat} {A' : Nat → Option Addr} (same : ∀ j, j ≠ i → A' j = A j) (mine : ∀ a, A' i = some a → Fresh H a ∧ ∃ o, H' a = some o ∧ ∀ ps, o ≠ HO.tbl ps) {v : V} {r : DV}
    (h : SlOk c.t (msk (c.av A') H') H' (A' i) (some (some v)) r) (hi : i < ρ.length) (ow : ∀ a, A' i = some a → r.isOwn = true) : EnvA c A' m (σ.set i (some v)) H' (ρ.set i r) := by
  have xt : Xt (msk (c.av A) H) (msk (c.av A') H') := fun b o q e => by
    obtain ⟨h1, h2⟩ := msk_some e
    have nb : ¬ c.B b := fun z => h1 (.inl z)
    have na : ¬ c.av A' b := by
      rintro (z | ⟨j, z⟩)
      · exact nb z
      · by_cases e : j = i
        · subst e
          obtain ⟨ps, z2⟩ := (mine b z).1 o h2
          exact q ps z2
        · rw [same j e] at z
          exact h1 (.inr ⟨j, z⟩)
    rw [msk_out na]
    exact f.1 b o (fun p => nb (c.PB b p)) q h2
  refine ⟨fun b o p q e => f.1 b o p q (E.keep b o p q e), f.2, fun j a e => ?_, fun j a e => ?_, fun j k a ej ek => ?_, fun j x e => ?_, by rw [List.length_set, List.length_set]; exact E.len, fun p hp => (E.pin p hp).ex xt, ?_, fun j a x e1 e2 => ?_⟩
  · by_cases z : j = i
    · subst z
      exact (mine a e).1.fr E.fr0
    · exact E.new j a (by rw [← same j z]; exact e)
  · by_cases z : j = i
    · subst z
      exact (mine a e).2
    · exact (E.fr f).has j a (by rw [← same j z]; exact e)
  · have key : ∀ {j : Nat}, j ≠ i → A' j = some a → A' i = some a → False := fun {j} z e1 e2 => by
      rw [same j z] at e1
      obtain ⟨o, h1, h2⟩ := E.has j a e1
      obtain ⟨ps, h3⟩ := (mine a e2).1 o h1
      exact h2 ps h3
    by_cases z : j = i
    · subst z
      by_cases z2 : k = j
      · exact z2.symm
      · exact (key z2 ek ej).elim
    · by_cases z2 : k = i
      · subst z2
        exact (key z ej ek).elim
      · exact E.inj j k a (by rw [← same j z]; exact ej) (by rw [← same k z2]; exact ek)
  · by_cases z : j = i
    · subst z
      rw [List.getElem?_set_self hi] at e
      cases e
      rw [List.getElem?_set_self (by rw [← E.len]; exact hi)]
      exact h
    · rw [List.getElem?_set_ne (fun q => z q.symm)] at e ⊢
      rw [same j z]
      exact (E.slot j x e).ex xt fun a o h1 h2 h3 => f.1 a o (fun p => E.nP h1 (c.PB a p)) h2 h3
  · obtain ⟨N, hN⟩ := E.fin
    refine ⟨max N (i + 1), fun k hk => ?_⟩
    rw [same k (by have := Nat.le_trans (Nat.le_max_right N (i + 1)) hk; omega)]
    exact hN k (Nat.le_trans (Nat.le_max_left _ _) hk)
  · by_cases z : j = i
    · subst z
      rw [List.getElem?_set_self hi] at e2
      cases e2
      exact ow a e1
    · rw [List.getElem?_set_ne (fun q => z q.symm)] at e2
      rw [same j z] at e1
      exact E.mine j a x e1 e2
theorem EnvA.put (E : EnvA c A n σ H ρ) (f : Fr c m H H') {i : Nat} {v : V} {r : DV} (h : VOk c.t (c.av A) H v H' r) (hi : i < ρ.length) : ∃ A', EnvA c A' m (σ.set i (some v)) H' (ρ.set i r) := by
  have drop : ∀ {b : Addr}, c.av (fun j => if j = i then none else A j) b → c.av A b := fun {b} z => by
    rcases z with z | ⟨j, z⟩
    · exact .inl z
    · have z' : (if j = i then none else A j) = some b := z
      split at z'
      · cases z'
      · exact .inr ⟨j, z'⟩
  have d1 : Xt (msk (c.av A) H') (msk (c.av (fun j => if j = i then none else A j)) H') := fun b o _ e => by
    obtain ⟨h1, h2⟩ := msk_some e
    rw [msk_out fun z => h1 (drop z)]
    exact h2
  have s1 : ∀ j, j ≠ i → (fun j => if j = i then none else A j) j = A j := fun j z => by show (if j = i then none else A j) = _; rw [if_neg z]
  have m1 : ∀ a, (fun j => if j = i then none else A j) i = some a → Fresh H a ∧ ∃ o, H' a = some o ∧ ∀ ps, o ≠ HO.tbl ps := fun a z => by
    have z' : (if i = i then none else A i) = some a := z
    rw [if_pos rfl] at z'
    cases z'
  have s2 : ∀ p j, j ≠ i → (fun j => if j = i then some p else A j) j = A j := fun p j z => by show (if j = i then some p else A j) = _; rw [if_neg z]
  have d2 : ∀ p, Xt (msk (fun b => c.av A b ∨ b = p) H') (msk (c.av (fun j => if j = i then some p else A j)) H') := fun p b o _ e => by
    obtain ⟨h1, h2⟩ := msk_some e
    rw [msk_out]
    · exact h2
    · rintro (z | ⟨j, z⟩)
      · exact h1 (.inl (.inl z))
      · have z' : (if j = i then some p else A j) = some b := z
        split at z'
        · cases z'
          exact h1 (.inr rfl)
        · exact h1 (.inl (.inr ⟨j, z'⟩))
  have i2 : ∀ p : Addr, (fun j => if j = i then some p else A j) i = some p := fun p => by show (if i = i then some p else A i) = some p; rw [if_pos rfl]
  cases r with
  | un => exact h.elim
  | raw v => exact h.elim
  | tape =>
    exact ⟨_, E.put' f s1 m1 ⟨congrArg (fun x => some (some x)) h.1, h.2⟩ hi (fun a z => by rw [if_pos rfl] at z; cases z)⟩
  | d x => exact ⟨_, E.put' f s1 m1 ⟨v, rfl, Rp.ex h d1⟩ hi (fun a z => by rw [if_pos rfl] at z; cases z)⟩
  | own ds =>
    obtain ⟨a, vs, rfl, h2, h3, h4⟩ := h
    exact ⟨_, E.put' (A' := fun j => if j = i then some a else A j) f (s2 a) (fun b z => by rw [if_pos rfl] at z; cases z; exact ⟨h2, _, h3, fun ps z => by cases z⟩) ⟨a, vs, i2 a, rfl, h3, h4.ex (d2 a)⟩ hi (fun _ _ => rfl)⟩
  | dic kvs =>
    obtain ⟨a, vs, rfl, h2, h3, h4⟩ := h
    exact ⟨_, E.put' (A' := fun j => if j = i then some a else A j) f (s2 a) (fun b z => by rw [if_pos rfl] at z; cases z; exact ⟨h2, _, h3, fun ps z => by cases z⟩) ⟨a, vs, i2 a, rfl, h3, h4.ex (d2 a)⟩ hi (fun _ _ => rfl)⟩
/-- one's own list, one's own dict is changed -/
theorem EnvA.mut (E : EnvA c A n σ H ρ) {i : Nat} {a : Addr} {o u : HO} {r : DV} (hA : A i = some a) (ho : H a = some o) (ty : (∃ xs, o = .lst xs) ∨ ∃ kvs, o = .dK kvs) (hu : ∀ ps, u ≠ HO.tbl ps)
    (h : SlOk c.t (msk (c.av A) H) (upd H a u) (A i) (σ[i]?) r) (ow : i < ρ.length → r.isOwn = true) : EnvA c A n σ (upd H a u) (ρ.set i r) := by
  have av : c.av A a := .inr ⟨i, hA⟩
  have mk : msk (c.av A) (upd H a u) = msk (c.av A) H := by
    funext b
    by_cases z : c.av A b
    · unfold msk
      rw [if_pos z, if_pos z]
    · rw [msk_out z, msk_out z, upd_ne (fun e => z (by rw [e]; exact av))]
  have ne : ∀ {b : Addr} {o' : HO}, H b = some o' → (∀ xs, o' ≠ HO.lst xs) → (∀ kvs, o' ≠ HO.dK kvs) → b ≠ a := fun {b o'} e l d z => by
    rw [z, ho] at e
    cases e
    rcases ty with ⟨xs, q⟩ | ⟨kvs, q⟩
    · exact l xs q
    · exact d kvs q
  refine ⟨fun b o' p q e => ?_, c.Gm n H _ E.g (fun b o' l d e => by rw [upd_ne (ne e l d)]; exact e) fun b o' p e => ?_, E.new, fun j b e => ?_, E.inj, fun j x e => ?_, by rw [List.length_set]; exact E.len, fun p hp => by rw [mk]; exact E.pin p hp, E.fin, fun j b x e1 e2 => ?_⟩
  · rw [upd_ne]
    · exact E.keep b o' p q e
    · intro z
      rw [z] at e
      obtain ⟨ps, z2⟩ := E.new i a hA o' e
      exact q ps z2
  · rw [upd_ne]
    · exact e
    · intro z
      rw [z] at p
      exact E.nP hA (c.PB a p)
  · by_cases z : b = a
    · subst z
      exact ⟨u, upd_same, hu⟩
    · rw [upd_ne z]
      exact E.has j b e
  · rw [mk]
    by_cases z : j = i
    · subst z
      have hj : j < ρ.length := by
        have := (List.getElem?_eq_some_iff.mp e).1
        rwa [List.length_set] at this
      rw [List.getElem?_set_self hj] at e
      cases e
      exact h
    · rw [List.getElem?_set_ne (fun q => z q.symm)] at e
      refine (E.slot j x e).ex (fun b o' _ h => h) fun b o' h1 h2 h3 => ?_
      rw [upd_ne]
      · exact h3
      · intro q
        rw [q] at h1
        exact z (E.inj j i a h1 hA)
  · by_cases z : j = i
    · subst z
      have hj : j < ρ.length := by
        have := (List.getElem?_eq_some_iff.mp e2).1
        rwa [List.length_set] at this
      rw [List.getElem?_set_self hj] at e2
      cases e2
      exact ow hj
    · rw [List.getElem?_set_ne (fun q => z q.symm)] at e2
      exact E.mine j b x e1 e2
/-- what is one's own is left as data -/
theorem EnvA.frz (E : EnvA c A n σ H ρ) (i : Nat) : EnvA c (fun j => if j = i then none else A j) n σ H (match ρ[i]? with | some (.own ds) => ρ.set i (.d (.list ds)) | some (.dic _) => ρ.set i .un | _ => ρ) := by
  have drop : ∀ {b : Addr}, c.av (fun j => if j = i then none else A j) b → c.av A b := fun {b} z => by
    rcases z with z | ⟨j, z⟩
    · exact .inl z
    · have z' : (if j = i then none else A j) = some b := z
      split at z'
      · cases z'
      · exact .inr ⟨j, z'⟩
  have xt : Xt (msk (c.av A) H) (msk (c.av (fun j => if j = i then none else A j)) H) := fun b o _ e => by
    obtain ⟨h1, h2⟩ := msk_some e
    rw [msk_out fun z => h1 (drop z)]
    exact h2
  have up : ∀ {j : Nat} {a : Addr}, (fun j => if j = i then none else A j) j = some a → j ≠ i ∧ A j = some a := fun {j a} z => by
    have z' : (if j = i then none else A j) = some a := z
    split at z'
    · cases z'
    · exact ⟨by assumption, z'⟩
  have other : ∀ (ρ' : List DV) j x, j ≠ i → ρ[j]? = some x → SlOk c.t (msk (c.av (fun j => if j = i then none else A j)) H) H ((fun j => if j = i then none else A j) j) (σ[j]?) x := fun ρ' j x z e => by
    show SlOk _ _ _ (if j = i then none else A j) _ _
    rw [if_neg z]
    exact (E.slot j x e).ex xt fun _ _ _ _ h => h
  have base : ∀ ρ' : List DV, ρ'.length = ρ.length → (∀ j, j ≠ i → ρ'[j]? = ρ[j]?) → (∀ j x, ρ'[j]? = some x → SlOk c.t (msk (c.av (fun j => if j = i then none else A j)) H) H ((fun j => if j = i then none else A j) j) (σ[j]?) x) → EnvA c (fun j => if j = i then none else A j) n σ H ρ' := fun ρ' hl ho hs =>
    ⟨E.keep, E.g, fun j a e => E.new j a (up e).2, fun j a e => E.has j a (up e).2, fun j k a e1 e2 => E.inj j k a (up e1).2 (up e2).2, hs, by rw [hl]; exact E.len, fun p hp => (E.pin p hp).ex xt, by
      obtain ⟨N, hN⟩ := E.fin
      exact ⟨N, fun k hk => by
        show (if k = i then none else A k) = none
        split
        · rfl
        · exact hN k hk⟩, fun j a x e1 e2 => E.mine j a x (up e1).2 (by rw [← ho j (up e1).1]; exact e2)⟩
  have set : ∀ y, SlOk c.t (msk (c.av (fun j => if j = i then none else A j)) H) H ((fun j => if j = i then none else A j) i) (σ[i]?) y → EnvA c (fun j => if j = i then none else A j) n σ H (ρ.set i y) := fun y hy => base _ (List.length_set ..) (fun j z => List.getElem?_set_ne fun q => z q.symm) fun j x e => by
    by_cases z : j = i
    · subst z
      have hj : j < ρ.length := by
        have := (List.getElem?_eq_some_iff.mp e).1
        rwa [List.length_set] at this
      rw [List.getElem?_set_self hj] at e
      cases e
      exact hy
    · rw [List.getElem?_set_ne (fun q => z q.symm)] at e
      exact other ρ j x z e
  have rest : (∀ x, ρ[i]? = some x → (∀ ds, x ≠ .own ds) ∧ ∀ kvs, x ≠ .dic kvs) → EnvA c (fun j => if j = i then none else A j) n σ H ρ := fun nx => base ρ rfl (fun _ _ => rfl) fun j x e => by
    by_cases z : j = i
    · subst z
      obtain ⟨n1, n2⟩ := nx x e
      have q := E.slot j x e
      cases x with
      | un => exact True.intro
      | tape => exact q
      | raw v => exact q
      | d y =>
        obtain ⟨v, h1, h2⟩ := q
        exact ⟨v, h1, h2.ex xt⟩
      | own ds => exact (n1 ds rfl).elim
      | dic kvs => exact (n2 kvs rfl).elim
    · exact other ρ j x z e
  split
  · rename_i ds e
    obtain ⟨a, vs, h1, h2, h3, h4⟩ := E.slot i _ e
    refine set _ ⟨.ref a, h2, .lst ?_ (h4.ex xt)⟩
    rw [msk_out]
    · exact h3
    · rintro (z | ⟨j, z⟩)
      · exact E.nP h1 z
      · exact (up z).1 (E.inj j i a (up z).2 h1)
  · exact set _ True.intro
  · rename_i n1 n2
    exact rest fun x e => ⟨fun ds z => n1 ds (by rw [e, z]), fun kvs z => n2 kvs (by rw [e, z])⟩
end
def frzV : DV → DV
  | .own ds => .d (.list ds)
  | .dic _ => .un
  | x => x
def frz : Nat → List DV → List DV
  | _, [] => []
  | 0, x :: xs => frzV x :: xs
  | i + 1, x :: xs => x :: frz i xs
theorem frz_eq : ∀ (i : Nat) (ρ : List DV), (match ρ[i]? with | some (.own ds) => ρ.set i (.d (.list ds)) | some (.dic _) => ρ.set i .un | _ => ρ) = frz i ρ
  | i, [] => by simp [frz]
  | 0, x :: xs => by cases x <;> rfl
  | i + 1, x :: xs => by
    show _ = x :: frz i xs
    rw [← frz_eq i xs, List.getElem?_cons_succ]
    split <;> rfl
structure DE where
  nx : List DV → Int → Prop
  rt : DQ
  bk : List DV → Int → Prop := fun _ _ => False
  ct : List DV → Int → Prop := fun _ _ => False
abbrev DS := DE → List DV → Int → Prop
structure Link (c : EC) (E : DE) (D : Ends) : Prop where
  nx : ∀ A n σ H ρ, E.nx ρ n → EnvA c A n σ H ρ → D.nx σ H
  rt : ∀ v r n H', E.rt r n → Fr c n c.H0 H' → VOk c.t c.B c.H0 v H' r → D.rt v H'
  bk : ∀ A n σ H ρ, E.bk ρ n → EnvA c A n σ H ρ → D.bk σ H
  ct : ∀ A n σ H ρ, E.ct ρ n → EnvA c A n σ H ρ → D.ct σ H
def sD (F : DS) : TS := fun D σ H => ∃ (c : EC) (A : Nat → Option Addr) (n : Int) (ρ : List DV) (E : DE), EnvA c A n σ H ρ ∧ F E ρ n ∧ Link c E D
def dSeq (F G : DS) : DS := fun E ρ n => F { E with nx := G E } ρ n
def dNext : DS := fun E ρ n => E.nx ρ n
theorem psCons {X : Cx} {st : Stmt} {rest : List Stmt} {F G : DS} (h : PS X st (sD F)) (h2 : PSs X rest (sD G)) : PSs X (st :: rest) (sD (dSeq F G)) := (pss_cons h h2).imp fun D σ H ⟨c, A, n, ρ, E, e, hf, L⟩ =>
  ⟨c, A, n, ρ, _, e, hf, fun A n σ H ρ h e' => ⟨c, A, n, ρ, E, e', h, L⟩, L.rt, L.bk, L.ct⟩
theorem psOne {X : Cx} {st : Stmt} {F : DS} (h : PS X st (sD F)) : PSs X [st] (sD F) := pss_one h
theorem psFrz {X : Cx} {st : List Stmt} {F : DS} (i : Nat) (h : PSs X st (sD F)) : PSs X st (sD fun E ρ n => F E (frz i ρ) n) := h.imp fun D σ H ⟨c, A, n, ρ, E, e, hf, L⟩ => ⟨c, _, n, _, E, (frz_eq i ρ) ▸ e.frz i, hf, L⟩
def dSet (i : Nat) (f : DF) : DS := fun E ρ n => f ρ n fun r n1 => i < ρ.length ∧ E.nx (ρ.set i r) n1
theorem set_le {i : Nat} {f : DF} (D : Ends) (σ : L2.St) (H : Hp) (q : sD (dSet i f) D σ H) : tAsg (tD f) (gName i) D σ H := by
  obtain ⟨c, A, n, ρ, E, e, hf, L⟩ := q
  refine ⟨c, A, n, ρ, _, e, hf, fun v r n1 H1 ⟨hi, h1⟩ f1 o1 => ?_⟩
  obtain ⟨A', e'⟩ := e.put f1 o1 hi
  exact L.nx _ _ _ _ _ h1 e'
theorem psSet {X : Cx} {i : Nat} {x : Str} {e : Expr} {f : DF} {pos' pos : Pos} (hN : X.N.Nodup) (hi : X.N[i]? = some x) (hx : Loc X.env.scope x) (he : PE X e (tD f)) (hs : swapsWith e (some (.Name x pos')) pos.line X.env = pure false := by rfl) (hf : X.fn x = true ∨ X.env.scope.names.lookup x = some .local := by first | exact .inl rfl | exact .inr rfl | assumption) :
    PS X (.Assign [.Name x pos'] e pos) (sD (dSet i f)) := (ps_set hN hi hx he hs hf).imp set_le
theorem VOk.home {c : EC} {A : Nat → Option Addr} {n m : Int} {σ : L2.St} {H H' : Hp} {ρ : List DV} (E : EnvA c A n σ H ρ) {v : V} {r : DV} (h : VOk c.t (c.av A) H v H' r) : VOk c.t c.B c.H0 v H' r := by
  have xt : Xt (msk (c.av A) H') (msk c.B H') := fun b o _ e => by
    obtain ⟨h1, h2⟩ := msk_some e
    rw [msk_out fun z => h1 (.inl z)]
    exact h2
  have xt2 : ∀ a, Xt (msk (fun b => c.av A b ∨ b = a) H') (msk (fun b => c.B b ∨ b = a) H') := fun a b o _ e => by
    obtain ⟨h1, h2⟩ := msk_some e
    rw [msk_out fun z => h1 (z.elim (fun z => .inl (.inl z)) .inr)]
    exact h2
  cases r with
  | un => exact h
  | tape => exact h
  | raw v => exact h
  | d x => exact Rp.ex h xt
  | own ds =>
    obtain ⟨a, vs, h1, h2, h3, h4⟩ := h
    exact ⟨a, vs, h1, h2.fr E.fr0, h3, h4.ex (xt2 a)⟩
  | dic kvs =>
    obtain ⟨a, vs, h1, h2, h3, h4⟩ := h
    exact ⟨a, vs, h1, h2.fr E.fr0, h3, h4.ex (xt2 a)⟩
def dRet (f : DF) : DS := fun E ρ n => f ρ n E.rt
theorem psRet {X : Cx} {e : Expr} {f : DF} {pos : Pos} (he : PE X e (tD f)) : PS X (.Return (some e) pos) (sD (dRet f)) := (ps_ret he).imp fun D σ H ⟨c, A, n, ρ, E, e, hf, L⟩ =>
  ⟨c, A, n, ρ, _, e, hf, fun v r n1 H1 h1 f1 o1 => L.rt v r n1 H1 h1 (e.fr0.trans f1) (o1.home (m := n1) e)⟩
def dIfS (t : DT) (F G : DS) : DS := fun E ρ n => t ρ n fun b n1 => if b = true then F E ρ n1 else G E ρ n1
theorem psIf {X : Cx} {c : Expr} {a b : List Stmt} {t : DT} {F G : DS} {pos : Pos} (hc : PT X c (tDT t)) (ha : PSs X a (sD F)) (hb : PSs X b (sD G)) : PS X (.If c a b pos) (sD (dIfS t F G)) := (ps_if hc ha hb).imp fun D σ H ⟨c, A, n, ρ, E, e, hf, L⟩ => by
  refine ⟨c, A, n, ρ, _, e, hf, fun b n1 H1 h1 f1 => ?_⟩
  cases b with
  | true => exact ⟨c, A, n1, ρ, E, e.fr f1, h1, L⟩
  | false => exact ⟨c, A, n1, ρ, E, e.fr f1, h1, L⟩
theorem psNil {X : Cx} : PSs X [] (sD dNext) := pss_nil.imp fun D σ H ⟨c, A, n, ρ, E, e, hf, L⟩ => L.nx _ _ _ _ _ hf e
theorem psBrk {X : Cx} {pos : Pos} : PS X (.Break pos) (sD fun E ρ n => E.bk ρ n) := ps_break.imp fun D σ H ⟨c, A, n, ρ, E, e, hf, L⟩ => L.bk _ _ _ _ _ hf e
theorem psCnt {X : Cx} {pos : Pos} : PS X (.Continue pos) (sD fun E ρ n => E.ct ρ n) := ps_continue.imp fun D σ H ⟨c, A, n, ρ, E, e, hf, L⟩ => L.ct _ _ _ _ _ hf e
def dExp (f : DF) : DS := fun E ρ n => f ρ n fun _ n1 => E.nx ρ n1
theorem psExp {X : Cx} {e : Expr} {f : DF} {pos : Pos} (he : PE X e (tD f)) (hs : swapsWith e none pos.line X.env = pure false := by rfl) : PS X (.Expr e pos) (sD (dExp f)) := (ps_expr he hs).imp fun D σ H ⟨c, A, n, ρ, E, e, hf, L⟩ =>
  ⟨c, A, n, ρ, _, e, hf, fun v r n1 H1 h1 f1 o1 => L.nx _ _ _ _ _ h1 (e.fr f1)⟩
def dAug (i : Nat) (op : Int → Int → Int) (f : DF) : DS := fun E ρ n => ∃ a, ρ[i]? = some (.d (.int a)) ∧ f ρ n fun r n1 => ∃ b, r = .d (.int b) ∧ E.nx (ρ.set i (.d (.int (op a b)))) n1
theorem psAug {X : Cx} {i : Nat} {x : Str} {e : Expr} {o : Operator} {op : Int → Int → Int} {f : DF} {pos' pos : Pos} (hN : X.N.Nodup) (hi : X.N[i]? = some x) (hx : Loc X.env.scope x) (ho : PIp X o (ipI op)) (he : PE X e (tD f)) (hf : X.fn x = true ∨ X.env.scope.names.lookup x = some .local := by first | exact .inl rfl | exact .inr rfl | assumption) :
    PS X (.AugAssign (.Name x pos') o e pos) (sD (dAug i op f)) := (ps_aug hN hi hx he ho hf).imp fun D σ H ⟨c, A, n, ρ, E, e, ⟨a, ha, hf⟩, L⟩ => by
  obtain ⟨v, h1, h2⟩ := e.slot i _ ha
  cases h2
  refine ⟨_, h1, c, A, n, ρ, _, e, hf, fun w r n1 H1 ⟨b, e1, h3⟩ f1 o1 => ?_⟩
  subst e1
  cases o1
  refine ⟨a, b, rfl, rfl, ?_⟩
  obtain ⟨A', e'⟩ := (e.fr f1).put (.refl f1.2) (i := i) (v := .int (op a b)) (r := .d (.int (op a b))) (Rp.int _) (List.getElem?_eq_some_iff.mp ha).1
  exact L.nx _ _ _ _ _ h3 e'
/-- xs.append(e), xs.extend(e), xs a list of one's own -/
def dApp (i : Nat) (f : DF) : DS := fun E ρ n => f ρ n fun r n1 => ∃ ds, ρ[i]? = some (.own ds) ∧ ∃ d, r.dat = some d ∧ ds.length < 100000 ∧ E.nx (ρ.set i (.own (ds ++ [d]))) n1
def dExt (i : Nat) (f : DF) : DS := fun E ρ n => f ρ n fun r n1 => ∃ ds, ρ[i]? = some (.own ds) ∧ ∃ es, r.dat = some (.list es) ∧ ds.length + es.length ≤ 100000 ∧ E.nx (ρ.set i (.own (ds ++ es))) n1
theorem set_self {ρ : List DV} {i : Nat} {x : DV} (h : ρ[i]? = some x) : ρ.set i x = ρ := by
  apply List.ext_getElem?
  intro j
  by_cases e : i = j
  · subst e
    rw [List.getElem?_set_self (List.getElem?_eq_some_iff.mp h).1, h]
  · rw [List.getElem?_set_ne e]
theorem psApp {X : Cx} {i : Nat} {e : Expr} {f : DF} {pos : Pos} (hs : swapsWith e none pos.line X.env = pure false) (h : PE X e (tBM X.K "list" rAppend (tVar i) (tCons (tD f) tNil))) : PS X (.Expr e pos) (sD (fun E ρ n => (∃ ds, ρ[i]? = some (.own ds)) ∧ dApp i f E ρ n)) := (ps_expr h hs).imp fun D σ H ⟨c, A, n, ρ, E, e, ⟨⟨ds0, h0⟩, hf⟩, L⟩ => by
  obtain ⟨a, vs, h1, h2, h3, h4⟩ := e.slot i _ h0
  refine ⟨_, h2, .inl ⟨rfl, _, SqL.of h3⟩, c, A, n, ρ, _, e, hf, fun v r n1 H1 ⟨ds, g1, d, g2, g3, g4⟩ f1 o1 => ?_⟩
  have e1 := e.fr f1
  rw [h0] at g1
  cases g1
  obtain ⟨a', vs', k1, k2, k3, k4⟩ := e1.slot i _ h0
  rw [h1] at k1
  cases k1
  have rv := o1.dat e g2
  refine ⟨a, vs', v, rfl, rfl, k3, big_lt (by rw [k4.length]; exact g3), ?_⟩
  exact L.nx _ _ _ _ _ g4 (e1.mut h1 k3 (.inl ⟨_, rfl⟩) (fun ps z => by cases z) ⟨a, _, h1, h2, upd_same, k4.app (.one rv)⟩ fun _ => rfl)
theorem psExt {X : Cx} {i : Nat} {e : Expr} {f : DF} {pos : Pos} (hs : swapsWith e none pos.line X.env = pure false) (h : PE X e (tBM X.K "list" rExtend (tVar i) (tCons (tD f) tNil))) : PS X (.Expr e pos) (sD (fun E ρ n => (∃ ds, ρ[i]? = some (.own ds)) ∧ dExt i f E ρ n)) := (ps_expr h hs).imp fun D σ H ⟨c, A, n, ρ, E, e, ⟨⟨ds0, h0⟩, hf⟩, L⟩ => by
  obtain ⟨a, vs, h1, h2, h3, h4⟩ := e.slot i _ h0
  refine ⟨_, h2, .inl ⟨rfl, _, SqL.of h3⟩, c, A, n, ρ, _, e, hf, fun v r n1 H1 ⟨ds, g1, es, g2, g3, g4⟩ f1 o1 => ?_⟩
  have e1 := e.fr f1
  rw [h0] at g1
  cases g1
  obtain ⟨a', vs', k1, k2, k3, k4⟩ := e1.slot i _ h0
  rw [h1] at k1
  cases k1
  have rv := o1.dat e g2
  cases rv with
  | lst hb rb =>
    refine ⟨a, _, vs', _, rfl, rfl, k3, (msk_some hb).2, big_line (by rw [k4.length, rb.length]; exact g3), ?_⟩
    exact L.nx _ _ _ _ _ g4 (e1.mut h1 k3 (.inl ⟨_, rfl⟩) (fun ps z => by cases z) ⟨a, _, h1, h2, upd_same, k4.app rb⟩ fun _ => rfl)
/-- a look at one's own: what is told is no list and no tuple -/
def PyData.flat0 : PyData → Bool
  | .none => true
  | .bool _ => true
  | .int _ => true
  | .str _ => true
  | _ => false
def dPeek (f : DF) : DF := fun ρ n Q => f (ρ.map DV.cold) n fun r n1 => ∃ d, r = .d d ∧ PyData.flat0 d = true ∧ Q r n1
theorem EnvA.colds {c : EC} {A : Nat → Option Addr} {n : Int} {σ : L2.St} {H : Hp} {ρ : List DV} (E : EnvA c A n σ H ρ) : ∃ A', EnvA c A' n σ H ((ρ.map DV.cold).map fun x => match x with | .dic _ => .un | y => y) := by
  have av : ∀ {b : Addr}, ¬ c.B b → ¬ c.av (fun _ => none) b := fun nb z => by
    rcases z with z | ⟨j, z⟩
    · exact nb z
    · cases z
  have xt : Xt (msk (c.av A) H) (msk (c.av (fun _ => none)) H) := fun b o _ e => by
    obtain ⟨h1, h2⟩ := msk_some e
    rw [msk_out (av fun z => h1 (.inl z))]
    exact h2
  refine ⟨fun _ => none, E.keep, E.g, fun i a e => (by cases e), fun i a e => (by cases e), fun i j a e => (by cases e), fun i x e => ?_, by rw [List.length_map, List.length_map]; exact E.len, fun p hp => (E.pin p hp).ex xt, ⟨0, fun _ _ => rfl⟩, fun i a x e => (by cases e)⟩
  rw [List.getElem?_map, List.getElem?_map] at e
  cases h : ρ[i]? with
  | none =>
    rw [h] at e
    cases e
  | some y =>
    rw [h] at e
    have q := E.slot i y h
    cases y with
    | un => cases e; exact True.intro
    | tape => cases e; exact q
    | raw v => cases e; exact q
    | d z =>
      cases e
      obtain ⟨v, h1, h2⟩ := q
      exact ⟨v, h1, h2.ex xt⟩
    | own ds =>
      cases e
      obtain ⟨a, vs, h1, h2, h3, h4⟩ := q
      refine ⟨.ref a, h2, .lst ?_ (h4.ex xt)⟩
      rw [msk_out (av (E.nP h1))]
      exact h3
    | dic kvs => cases e; exact True.intro
theorem flat_rp {d : PyData} {M M' : Hp} {v : V} (h : PyData.flat0 d = true) (r : Rp M v d) : Rp M' v d := by
  cases r with
  | lst _ _ => cases h
  | tup _ _ => cases h
  | non => exact .non
  | bl b => exact .bl b
  | int i => exact .int i
  | str x => exact .str x
def coldD : List DV → List DV := fun ρ => (ρ.map DV.cold).map fun x => match x with | .dic _ => .un | y => y
def dPk (f : DF) : DF := fun ρ n Q => f (coldD ρ) n fun r n1 => ∃ d, r = .d d ∧ PyData.flat0 d = true ∧ Q r n1
theorem pdPk {X : Cx} {e : Expr} {f : DF} (h : PE X e (tD f)) : PE X e (tD (dPk f)) := h.imp fun σ H Q ⟨c, A, n, ρ, Q', E, hf, k⟩ => by
  obtain ⟨A', E'⟩ := E.colds
  refine ⟨c, A', n, _, _, E', hf, fun v r n1 H1 ⟨d, e1, e2, h1⟩ f1 o1 => ?_⟩
  subst e1
  exact k v _ n1 H1 h1 f1 (flat_rp e2 o1)
end

/-! ### data readings: targets, loops, comprehensions, defs -/
section
variable [Fam] [Tabz]
abbrev DG := PyData → List DV → Option (List DV)
/-- a target: it changes the slots of sl alone -/
def gD (sl : List Nat) (g : DG) : TG := fun v σ H Q => ∃ (c : EC) (A : Nat → Option Addr) (n : Int) (ρ ρ' : List DV) (d : PyData), EnvA c A n σ H ρ ∧ Rp (msk (c.av A) H) v d ∧ g d ρ = some ρ' ∧
  ∀ A' σ', EnvA c A' n σ' H ρ' → σ'.length = σ.length → (∀ j, j ∉ sl → σ'[j]? = σ[j]? ∧ A' j = A j) → Q σ' H
def gDs (sl : List Nat) (g : List PyData → List DV → Option (List DV)) : TGs := fun vs σ H Q => ∃ (c : EC) (A : Nat → Option Addr) (n : Int) (ρ ρ' : List DV) (ds : List PyData), EnvA c A n σ H ρ ∧ RpA (msk (c.av A) H) vs ds ∧ g ds ρ = some ρ' ∧
  ∀ A' σ', EnvA c A' n σ' H ρ' → σ'.length = σ.length → (∀ j, j ∉ sl → σ'[j]? = σ[j]? ∧ A' j = A j) → Q σ' H
theorem _root_.L2.PG.imp {X : Cx} {e : Expr} {t t' : TG} (h : PG X e t) (i : ∀ v σ H Q, t' v σ H Q → t v σ H Q) : PG X e t' := ⟨fun pins s σ H v u Q I r q => h.run pins s σ H v u Q I r (i v σ H Q q)⟩
theorem _root_.L2.PGs.imp {X : Cx} {e : List Expr} {t t' : TGs} (h : PGs X e t) (i : ∀ v σ H Q, t' v σ H Q → t v σ H Q) : PGs X e t' := ⟨fun pins s σ H v u Q I r q => h.run pins s σ H v u Q I r (i v σ H Q q)⟩
def gN (i : Nat) : DG := fun d ρ => if i < ρ.length then some (ρ.set i (.d d)) else none
theorem EnvA.putD {c : EC} {A : Nat → Option Addr} {n : Int} {σ : L2.St} {H : Hp} {ρ : List DV} (E : EnvA c A n σ H ρ) {i : Nat} {v : V} {d : PyData} (r : Rp (msk (c.av A) H) v d) (hi : i < ρ.length) : EnvA c (fun j => if j = i then none else A j) n (σ.set i (some v)) H (ρ.set i (.d d)) := by
  refine E.put' (.refl E.g) (fun j z => by show (if j = i then none else A j) = _; rw [if_neg z]) (fun a z => ?_) ⟨v, rfl, r.ex fun b o _ e => ?_⟩ hi (fun a z => by rw [if_pos rfl] at z; cases z)
  · have z' : (if i = i then none else A i) = some a := z
    rw [if_pos rfl] at z'
    cases z'
  · obtain ⟨h1, h2⟩ := msk_some e
    rw [msk_out]
    · exact h2
    · rintro (z | ⟨j, z⟩)
      · exact h1 (.inl z)
      · have z' : (if j = i then none else A j) = some b := z
        split at z'
        · cases z'
        · exact h1 (.inr ⟨j, z'⟩)
  
theorem pgN {X : Cx} {i : Nat} {e : Expr} (h : PG X e (gName i)) : PG X e (gD [i] (gN i)) := h.imp fun v σ H Q ⟨c, A, n, ρ, ρ', d, E, r, hg, k⟩ => by
  unfold gN at hg
  split at hg
  · rename_i hi
    cases hg
    refine k _ _ (E.putD r hi) (List.length_set ..) fun j hj => ⟨List.getElem?_set_ne fun z => hj (by rw [z]; exact List.mem_singleton.mpr rfl), ?_⟩
    show (if j = i then none else A j) = A j
    rw [if_neg fun z => hj (by rw [z]; exact List.mem_singleton.mpr rfl)]
  · cases hg
def gNone : List PyData → List DV → Option (List DV) := fun ds ρ => match ds with | [] => some ρ | _ => none
def gMore (g : DG) (gs : List PyData → List DV → Option (List DV)) : List PyData → List DV → Option (List DV) := fun ds ρ => match ds with | [] => none | d :: ds => match g d ρ with | none => none | some ρ' => gs ds ρ'
theorem RpA.zips {M : Hp} : ∀ {vs : List V} {ds : List PyData}, RpA M vs ds → ∀ p ∈ List.zip vs ds, Rp M p.1 p.2
  | _, _, .nil => fun p hp => by cases hp
  | _, _, .cons r t => fun p hp => by
    rcases List.mem_cons.mp hp with e | e
    · rw [e]; exact r
    · exact RpA.zips t p e
theorem RpA.of_zips {M : Hp} : ∀ {vs : List V} {ds : List PyData}, vs.length = ds.length → (∀ p ∈ List.zip vs ds, Rp M p.1 p.2) → RpA M vs ds
  | [], [], _, _ => .nil
  | [], _ :: _, e, _ => by cases e
  | _ :: _, [], e, _ => by cases e
  | v :: vs, d :: ds, e, h => .cons (h (v, d) List.mem_cons_self) (RpA.of_zips (Nat.succ.inj e) fun p hp => h p (List.mem_cons_of_mem _ hp))
theorem pgNil {X : Cx} : PGs X [] (gDs [] gNone) := pgs_nil.imp fun vs σ H Q ⟨c, A, n, ρ, ρ', ds, E, r, hg, k⟩ => by
  unfold gNone at hg
  split at hg
  · cases hg
    cases r
    exact ⟨rfl, k A σ E rfl fun j _ => ⟨rfl, rfl⟩⟩
  · cases hg
theorem pgCons {X : Cx} {e : Expr} {es : List Expr} {s1 s2 : List Nat} {g : DG} {gs : List PyData → List DV → Option (List DV)} (h1 : PG X e (gD s1 g)) (h2 : PGs X es (gDs s2 gs))
    (hs : (assignEach (e :: es) X.env).map (·.2) = assign e X.env :: (assignEach es X.env).map (·.2) := by rfl) : PGs X (e :: es) (gDs (s1 ++ s2) (gMore g gs)) := (pgs_cons h1 h2 hs).imp fun vs σ H Q ⟨c, A, n, ρ, ρ', ds, E, r, hg, k⟩ => by
  unfold gMore at hg
  cases r with
  | nil => cases hg
  | @cons v vs d ds r rs =>
    have hg' : (match g d ρ with | none => none | some ρ' => gs ds ρ') = some ρ' := hg
    cases q : g d ρ with
    | none => rw [q] at hg'; cases hg'
    | some ρ1 =>
      rw [q] at hg'
      have Ep : EnvA (c.pin (List.zip vs ds)) A n σ H ρ := ⟨E.keep, E.g, E.new, E.has, E.inj, E.slot, E.len, fun p hp => by
        rcases List.mem_append.mp hp with hp | hp
        · exact rs.zips p hp
        · exact E.pin p hp, E.fin, E.mine⟩
      refine ⟨v, vs, rfl, c.pin (List.zip vs ds), A, n, ρ, ρ1, d, Ep, r, q, fun A1 σ1 E1 l1 o1 => ?_⟩
      have rs1 : RpA (msk (c.av A1) H) vs ds := by
        exact RpA.of_zips rs.length fun p hp => E1.pin p (List.mem_append.mpr (.inl hp))
      have E1' : EnvA c A1 n σ1 H ρ1 := ⟨E1.keep, E1.g, E1.new, E1.has, E1.inj, E1.slot, E1.len, fun p hp => E1.pin p (List.mem_append.mpr (.inr hp)), E1.fin, E1.mine⟩
      refine ⟨c, A1, n, ρ1, ρ', ds, E1', rs1, hg', fun A2 σ2 E2 l2 o2 => k A2 σ2 E2 (l2.trans l1) fun j hj => ?_⟩
      have n1 : j ∉ s1 := fun z => hj (List.mem_append.mpr (.inl z))
      have n2 : j ∉ s2 := fun z => hj (List.mem_append.mpr (.inr z))
      exact ⟨(o2 j n2).1.trans (o1 j n1).1, (o2 j n2).2.trans (o1 j n1).2⟩
def gTp (n : Nat) (gs : List PyData → List DV → Option (List DV)) : DG := fun d ρ => match d with | .tuple ds => if ds.length = n then gs ds ρ else none | _ => none
theorem pgTup {X : Cx} {es : List Expr} {k : Nat} {sl : List Nat} {gs : List PyData → List DV → Option (List DV)} {pos : Pos} {n : Nat} (hc : X.calm = true) (h : PGs X es (gDs sl gs))
    (hn : (assignEach es X.env).length = n := by rfl) (hst : (assignEach es X.env).findIdx? (·.1) = none := by rfl) : PG X (.Tuple es k pos) (gD sl (gTp n gs)) := (pg_tup hc h hn hst).imp fun v σ H Q ⟨c, A, m, ρ, ρ', d, E, r, hg, k⟩ => by
  unfold gTp at hg
  split at hg
  · split at hg
    · rename_i ds hl
      cases r with
      | tup h1 h2 => exact ⟨_, _, rfl, SqT.of (msk_some h1).2, by rw [h2.length]; exact hl, c, A, m, ρ, ρ', ds, E, h2, hg, k⟩
    · cases hg
  · cases hg
/-- a, b = e -/
def dAsg (g : DG) (f : DF) : DS := fun E ρ n => f ρ n fun r n1 => ∃ d, r.dat = some d ∧ ∃ ρ', g d ρ = some ρ' ∧ E.nx ρ' n1
theorem psAsg {X : Cx} {tg e : Expr} {f : DF} {sl : List Nat} {g : DG} {pos : Pos} (he : PE X e (tD f)) (hg : PG X tg (gD sl g)) (hs : swapsWithSole [tg] e pos.line X.env = pure false := by rfl) (hw : swappedStores [tg] e X.env = pure none := by rfl) (h1 : (assignEach [tg] X.env).map (·.2) = [assign tg X.env] := by rfl) : PS X (.Assign [tg] e pos) (sD (dAsg g f)) := (ps_asg he hg hs hw h1).imp fun D σ H ⟨c, A, n, ρ, E, e, hf, L⟩ =>
  ⟨c, A, n, ρ, _, e, hf, fun v r n1 H1 ⟨d, e1, ρ', e2, h1⟩ f1 o1 => ⟨c, A, n1, ρ, ρ', d, e.fr f1, o1.dat e e1, e2, fun A' σ' E' _ _ => L.nx _ _ _ _ _ h1 E'⟩⟩
/-- what is walked: ds, one by one, by J, while what is pinned stands -/
def WD (c : EC) (l : List (V × PyData)) (J : It) (ds : List PyData) : Prop := ∀ A n σ H ρ, EnvA (c.pin l) A n σ H ρ →
  (∀ i d, ds[i]? = some d → J.go i H ∧ ∀ x H2, J.yld i H x H2 → (∀ b o, H b = some o → H2 b = some o) ∧ Rp (msk (c.av A) H2) x d) ∧ J.stop ds.length H
abbrev DI := List DV → Int → (List PyData → Int → Prop) → Prop
def iD (f : DI) : TI := fun σ H R => ∃ (c : EC) (A : Nat → Option Addr) (n : Int) (ρ : List DV) (Q' : List PyData → Int → Prop), EnvA c A n σ H ρ ∧ f ρ n Q' ∧ ∀ ds J n' H' l, Q' ds n' → Fr c n' H H' → (∀ p ∈ l, Rp (msk (c.av A) H') p.1 p.2) → WD c l J ds → R J H'
theorem _root_.L2.PI.imp {X : Cx} {tg iter : Expr} {t t' : TI} (h : PI X tg iter t) (i : ∀ σ H R, t' σ H R → t σ H R) : PI X tg iter t' := ⟨fun pins s σ H R I q => h.run pins s σ H R I (i σ H R q)⟩
theorem EnvA.pins {c : EC} {A : Nat → Option Addr} {n : Int} {σ : L2.St} {H : Hp} {ρ : List DV} (E : EnvA c A n σ H ρ) {l : List (V × PyData)} (h : ∀ p ∈ l, Rp (msk (c.av A) H) p.1 p.2) : EnvA (c.pin l) A n σ H ρ :=
  ⟨E.keep, E.g, E.new, E.has, E.inj, E.slot, E.len, fun p hp => (List.mem_append.mp hp).elim (h p) (E.pin p), E.fin, E.mine⟩
theorem EnvA.unpin {c : EC} {A : Nat → Option Addr} {n : Int} {σ : L2.St} {H : Hp} {ρ : List DV} {l : List (V × PyData)} (E : EnvA (c.pin l) A n σ H ρ) : EnvA c A n σ H ρ :=
  ⟨E.keep, E.g, E.new, E.has, E.inj, E.slot, E.len, fun p hp => E.pin p (List.mem_append.mpr (.inr hp)), E.fin, E.mine⟩
theorem EnvA.pinned {c : EC} {A : Nat → Option Addr} {n : Int} {σ : L2.St} {H : Hp} {ρ : List DV} {l : List (V × PyData)} (E : EnvA (c.pin l) A n σ H ρ) {p : V × PyData} (h : p ∈ l) : Rp (msk (c.av A) H) p.1 p.2 := E.pin p (List.mem_append.mpr (.inl h))
/-- lists, tuples -/
def dIn (f : DF) : DI := fun ρ n Q => f ρ n fun r n1 => ∃ ds, r.dat = some (.list ds) ∧ Q ds n1
def dInT (f : DF) : DI := fun ρ n Q => f ρ n fun r n1 => ∃ ds, r.dat = some (.tuple ds) ∧ Q ds n1
theorem piList {X : Cx} {tg e : Expr} {f : DF} (h : PE X e (tD f)) : PI X tg e (iD (dIn f)) := (pi_list h).imp fun σ H R ⟨c, A, n, ρ, Q', E, hf, k⟩ => by
  refine ⟨c, A, n, ρ, _, E, hf, fun v r n1 H1 ⟨ds, e1, h1⟩ f1 o1 => ?_⟩
  have rp := o1.dat E e1
  cases rp with
  | @lst a xs _ h2 h3 =>
    refine ⟨a, rfl, ⟨xs, SqL.of (msk_some h2).2⟩, k ds _ n1 H1 [(.ref a, .list ds)] h1 f1 (fun p hp => by rw [List.mem_singleton.mp hp]; exact .lst h2 h3) fun A n σ H ρ E' => ?_⟩
    have p := E'.pinned (p := (.ref a, .list ds)) (List.mem_singleton.mpr rfl)
    cases p with
    | @lst _ ys _ g2 g3 =>
      have hl := g3.length
      have hs := SqL.of (K := X.K) (msk_some g2).2
      refine ⟨fun i d hd => ?_, walk_list.stops H hs |> fun z => by rw [← hl]; exact z⟩
      obtain ⟨y, e2, r2⟩ := g3.get hd
      exact ⟨walk_list.goes i H (List.getElem?_eq_some_iff.mp e2).1 hs, fun x H2 yl => by
        obtain ⟨rfl, e3⟩ := walk_list.yields i H x H2 (List.getElem?_eq_some_iff.mp e2).1 hs yl
        rw [e2] at e3
        cases e3
        exact ⟨fun _ _ h => h, r2⟩⟩
theorem piTup {X : Cx} {tg e : Expr} {f : DF} (h : PE X e (tD f)) : PI X tg e (iD (dInT f)) := (pi_tup h).imp fun σ H R ⟨c, A, n, ρ, Q', E, hf, k⟩ => by
  refine ⟨c, A, n, ρ, _, E, hf, fun v r n1 H1 ⟨ds, e1, h1⟩ f1 o1 => ?_⟩
  have rp := o1.dat E e1
  cases rp with
  | @tup a xs _ h2 h3 =>
    refine ⟨a, rfl, ⟨xs, SqT.of (msk_some h2).2⟩, k ds _ n1 H1 [(.ref a, .tuple ds)] h1 f1 (fun p hp => by rw [List.mem_singleton.mp hp]; exact .tup h2 h3) fun A n σ H ρ E' => ?_⟩
    have p := E'.pinned (p := (.ref a, .tuple ds)) (List.mem_singleton.mpr rfl)
    cases p with
    | @tup _ ys _ g2 g3 =>
      have hl := g3.length
      have hs := SqT.of (K := X.K) (msk_some g2).2
      refine ⟨fun i d hd => ?_, walk_tup.stops H hs |> fun z => by rw [← hl]; exact z⟩
      obtain ⟨y, e2, r2⟩ := g3.get hd
      exact ⟨walk_tup.goes i H (List.getElem?_eq_some_iff.mp e2).1 hs, fun x H2 yl => by
        obtain ⟨rfl, e3⟩ := walk_tup.yields i H x H2 (List.getElem?_eq_some_iff.mp e2).1 hs yl
        rw [e2] at e3
        cases e3
        exact ⟨fun _ _ h => h, r2⟩⟩
/-- reversed(list) -/
def dRev (f : DF) : DI := fun ρ n Q => f ρ n fun r n1 => ∃ ds, r.dat = some (.list ds) ∧ Q ds.reverse n1
theorem piRev {X : Cx} {tg e : Expr} {f : DF} (h : PI X tg e (RT.iRevA X.K (tD f))) : PI X tg e (iD (dRev f)) := h.imp fun σ H R ⟨c, A, n, ρ, Q', E, hf, k⟩ => by
  refine ⟨c, A, n, ρ, _, E, hf, fun v r n1 H1 ⟨ds, e1, h1⟩ f1 o1 => ?_⟩
  have rp := o1.dat E e1
  cases rp with
  | @lst a xs _ h2 h3 =>
    refine ⟨a, xs, rfl, .inl ⟨SqL.of (msk_some h2).2, k ds.reverse _ n1 H1 [(.ref a, .list ds)] h1 f1 (fun p hp => by rw [List.mem_singleton.mp hp]; exact .lst h2 h3) fun A n σ H ρ E' => ?_⟩⟩
    have p := E'.pinned (p := (.ref a, .list ds)) (List.mem_singleton.mpr rfl)
    have hx := h3.length
    cases p with
    | @lst _ ys _ g2 g3 =>
      have hl := g3.length
      have hs := SqL.of (K := X.K) (msk_some g2).2
      have hxy : xs.length = ys.length := by rw [hx, hl]
      rw [hxy]
      refine ⟨fun i d hd => ?_, walk_rev.stops H hs |> fun z => by rw [List.length_reverse, ← hl]; exact z⟩
      have hi : i < ds.length := by
        have := (List.getElem?_eq_some_iff.mp hd).1
        rwa [List.length_reverse] at this
      rw [List.getElem?_reverse hi] at hd
      obtain ⟨y, e2, r2⟩ := g3.get hd
      exact ⟨walk_rev.goes i H (by rw [hl]; exact hi) hs, fun x H2 yl => by
        obtain ⟨rfl, e3⟩ := walk_rev.yields i H x H2 (by rw [hl]; exact hi) hs yl
        rw [hl, e2] at e3
        cases e3
        exact ⟨fun _ _ h => h, r2⟩⟩
/-- range(n) -/
def dRng (g : DA) : DI := fun ρ n Q => g ρ n fun rs n1 => ∃ j : Int, rs = [.d (.int j)] ∧ j < 2 ^ 62 ∧ -(2 ^ 62) ≤ j ∧ Q ((List.range j.toNat).map fun i => .int (i : Nat)) n1
theorem piRng {X : Cx} {tg e : Expr} {g : DA} (h : PI X tg e (iRng1 (tDA g))) : PI X tg e (iD (dRng g)) := h.imp fun σ H R ⟨c, A, n, ρ, Q', E, hf, k⟩ => by
  refine ⟨c, A, n, ρ, _, E, hf, fun vs rs n1 H1 ⟨j, e1, h2, h3, h1⟩ f1 o1 => ?_⟩
  subst e1
  cases o1 with
  | cons h _ t =>
    cases h
    cases t
    refine ⟨j, rfl, h3, h2, k _ _ n1 H1 [] h1 f1 (fun p hp => by cases hp) fun A n σ H ρ E' => ⟨fun i d hd => ?_, by rw [List.length_map, List.length_range]; exact walk_range.stops H True.intro⟩⟩
    have hi : i < j.toNat := by
      have := (List.getElem?_eq_some_iff.mp hd).1
      rwa [List.length_map, List.length_range] at this
    rw [List.getElem?_map, List.getElem?_range hi] at hd
    cases hd
    exact ⟨walk_range.goes i H hi True.intro, fun x H2 yl => by
      obtain ⟨rfl, rfl⟩ := walk_range.yields i H x H2 hi True.intro yl
      refine ⟨fun _ _ h => h, ?_⟩
      show Rp _ (.int (0 + (i : Nat))) (.int (i : Nat))
      rw [Int.zero_add]
      exact .int _⟩
theorem new_pair {c : EC} {A : Nat → Option Addr} {n : Int} {σ : L2.St} {H : Hp} {ρ : List DV} (E : EnvA c A n σ H ρ) {T : Addr} {x y : V} {d e : PyData} (hT : H T = none) (hx : Rp (msk (c.av A) H) x d) (hy : Rp (msk (c.av A) H) y e) : Rp (msk (c.av A) (upd H T (.tup [x, y]))) (.ref T) (.tuple [d, e]) :=
  tup_new E hT (.cons hx (.cons hy .nil))
theorem same_new {H : Hp} {T : Addr} {o : HO} (hT : H T = none) : ∀ b u, H b = some u → upd H T o b = some u := fun b u h => by
  rw [upd_ne (ne_of_none h hT)]
  exact h
/-- enumerate(list), zip(list, list) -/
def enumD (ds : List PyData) : List PyData := (List.range ds.length).map fun i => .tuple [.int (i : Nat), ds.getD i .none]
def dEnum (g : DA) : DI := fun ρ n Q => g ρ n fun rs n1 => ∃ ds, datsOf rs = some [.list ds] ∧ Q (enumD ds) n1
theorem enumD_len (ds : List PyData) : (enumD ds).length = ds.length := by unfold enumD; rw [List.length_map, List.length_range]
theorem piEnum {X : Cx} {tg e : Expr} {g : DA} (h : PI X tg e (iEnum X.K (tDA g))) : PI X tg e (iD (dEnum g)) := h.imp fun σ H R ⟨c, A, n, ρ, Q', E, hf, k⟩ => by
  refine ⟨c, A, n, ρ, _, E, hf, fun vs rs n1 H1 ⟨ds, e1, h1⟩ f1 o1 => ?_⟩
  have rp := o1.dats E e1
  cases rp with
  | cons r t =>
    cases t
    cases r with
    | @lst a xs _ h2 h3 =>
      refine ⟨a, xs, rfl, SqL.of (msk_some h2).2, k _ _ n1 H1 [(.ref a, .list ds)] h1 f1 (fun p hp => by rw [List.mem_singleton.mp hp]; exact .lst h2 h3) fun A n σ H ρ E' => ?_⟩
      have p := E'.pinned (p := (.ref a, .list ds)) (List.mem_singleton.mpr rfl)
      cases p with
      | @lst _ ys _ g2 g3 =>
        have hl := g3.length
        have hs := SqL.of (K := X.K) (msk_some g2).2
        refine ⟨fun i d hd => ?_, walk_enum.stops H hs |> fun z => by rw [enumD_len, ← hl]; exact z⟩
        have hi : i < ds.length := by
          have := (List.getElem?_eq_some_iff.mp hd).1
          rwa [enumD_len] at this
        unfold enumD at hd
        rw [List.getElem?_map, List.getElem?_range hi] at hd
        cases hd
        obtain ⟨y, e2, r2⟩ := g3.get (List.getElem?_eq_getElem hi)
        have hiy : i < ys.length := by rw [hl]; exact hi
        exact ⟨walk_enum.goes i H hiy hs, fun x H2 yl => by
          obtain ⟨T, u, w, rfl, hT, rfl, hu, hw⟩ := walk_enum.yields i H x H2 hiy hs yl
          cases hu
          have hw' : ys[i]? = some w := hw
          rw [e2] at hw'
          cases hw'
          refine ⟨same_new hT, ?_⟩
          show Rp _ _ (.tuple [.int (i : Nat), ds.getD i .none])
          rw [show ds.getD i .none = ds[i] by rw [List.getD_eq_getElem?_getD, List.getElem?_eq_getElem hi]; rfl]
          exact new_pair E' hT (.int _) r2⟩
def zipD (ds es : List PyData) : List PyData := (List.zip ds es).map fun p => .tuple [p.1, p.2]
def dZip (g : DA) : DI := fun ρ n Q => g ρ n fun rs n1 => ∃ ds es, datsOf rs = some [.list ds, .list es] ∧ Q (zipD ds es) n1
theorem piZip {X : Cx} {tg e : Expr} {g : DA} (h : PI X tg e (iZip X.K (tDA g))) : PI X tg e (iD (dZip g)) := h.imp fun σ H R ⟨c, A, n, ρ, Q', E, hf, k⟩ => by
  refine ⟨c, A, n, ρ, _, E, hf, fun vs rs n1 H1 ⟨ds, es, e1, h1⟩ f1 o1 => ?_⟩
  have rp := o1.dats E e1
  cases rp with
  | cons r t =>
    cases t with
    | cons q t =>
      cases t
      cases r with
      | @lst a xs _ h2 h3 =>
        cases q with
        | @lst b zs _ h4 h5 =>
          refine ⟨a, b, xs, zs, rfl, SqL.of (msk_some h2).2, SqL.of (msk_some h4).2, k _ _ n1 H1 [(.ref a, .list ds), (.ref b, .list es)] h1 f1 (fun p hp => by
            rcases List.mem_cons.mp hp with e | e
            · rw [e]; exact .lst h2 h3
            · rw [List.mem_singleton.mp e]; exact .lst h4 h5) fun A n σ H ρ E' => ?_⟩
          have p := E'.pinned (p := (.ref a, .list ds)) List.mem_cons_self
          have p' := E'.pinned (p := (.ref b, .list es)) (List.mem_cons_of_mem _ List.mem_cons_self)
          cases p with
          | @lst _ ys _ g2 g3 =>
            cases p' with
            | @lst _ ws _ g4 g5 =>
              have hl := g3.length
              have hl' := g5.length
              have hs : SqL X.K H a ys ∧ SqL X.K H b ws := ⟨SqL.of (K := X.K) (msk_some g2).2, SqL.of (K := X.K) (msk_some g4).2⟩
              have zl : (zipD ds es).length = min ys.length ws.length := by
                unfold zipD
                rw [List.length_map, List.length_zip, hl, hl']
              have wz := walk_zip (K := X.K) (a := a) (b := b) zl
              refine ⟨fun i d hd => ?_, wz.stops H hs⟩
              have hi : i < (zipD ds es).length := (List.getElem?_eq_some_iff.mp hd).1
              have h1 : i < ds.length := by rw [zl] at hi; omega
              have h2 : i < es.length := by rw [zl] at hi; omega
              have ed : d = .tuple [ds[i], es[i]] := by
                unfold zipD at hd
                rw [List.getElem?_map, List.getElem?_eq_getElem (by rw [List.length_zip]; omega), List.getElem_zip] at hd
                exact (Option.some.inj hd).symm
              obtain ⟨y, e2, r2⟩ := g3.get (List.getElem?_eq_getElem h1)
              obtain ⟨y', e2', r2'⟩ := g5.get (List.getElem?_eq_getElem h2)
              exact ⟨wz.goes i H hi hs, fun x H2 yl => by
                obtain ⟨T, u, w, rfl, hT, rfl, hu, hw⟩ := wz.yields i H x H2 hi hs yl
                have hu' : ys[i]? = some u := hu
                have hw' : ws[i]? = some w := hw
                rw [e2] at hu'
                rw [e2'] at hw'
                cases hu'
                cases hw'
                refine ⟨same_new hT, ?_⟩
                rw [ed]
                exact new_pair E' hT r2 r2'⟩
/-- for -/
def dFor (f : DI) (g : DG) (F : DS) : DS := fun E ρ n => f ρ n fun ds n1 => ∃ W : Nat → List DV → Int → Prop, W 0 ρ n1 ∧ (∀ i d ρ n, ds[i]? = some d → W i ρ n → ∃ ρ', g d ρ = some ρ' ∧ F { E with nx := W (i + 1), ct := W (i + 1), bk := E.nx } ρ' n) ∧ ∀ ρ n, W ds.length ρ n → E.nx ρ n
theorem psFor {X : Cx} {tg iter : Expr} {body : List Stmt} {f : DI} {sl : List Nat} {g : DG} {F : DS} {pos : Pos} (hp : PassesOwn (model X.prog X.w) X.A X.env X.xe) (hc : X.calm = true) (hi : PI X tg iter (iD f)) (hg : PG X tg (gD sl g)) (hb : PSs X body (sD F))
    (hs : ∀ x, foldedSetIterable iter X.env x = pure x := by intro _; rfl) : PS X (.For tg iter body [] pos) (sD (dFor f g F)) := (ps_for hp hc hi hg hb hs).imp fun D σ H ⟨c, A, n, ρ, E, e, hf, L⟩ => by
  refine ⟨c, A, n, ρ, _, e, hf, fun ds J n1 H1 l ⟨W, w0, ws, wd⟩ f1 pins wD => ?_⟩
  refine ⟨fun i m σ H => m = ds.length - i ∧ i ≤ ds.length ∧ ∃ A n ρ, EnvA (c.pin l) A n σ H ρ ∧ W i ρ n, ⟨ds.length, by simp, Nat.zero_le _, A, n1, ρ, (e.fr f1).pins pins, w0⟩, ?_⟩
  rintro i m σ H ⟨rfl, hi, A, n, ρ, e', w⟩
  have q := wD A n σ H ρ e'
  by_cases hlt : i < ds.length
  · obtain ⟨go, yl⟩ := q.1 i ds[i] (List.getElem?_eq_getElem hlt)
    refine .inr ⟨go, fun σ H => ∃ A n ρ, EnvA (c.pin l) A n σ H ρ ∧ W (i + 1) ρ n, fun σ' H' w' => ⟨ds.length - (i + 1), by omega, rfl, hlt, w'⟩, fun x H2 y => ?_⟩
    obtain ⟨s, r⟩ := yl x H2 y
    obtain ⟨ρ', e1, h1⟩ := ws i ds[i] ρ n (List.getElem?_eq_getElem hlt) w
    have e2 : EnvA (c.pin l) A n σ H2 ρ := e'.fr (Fr.same e'.g s)
    refine ⟨c.pin l, A, n, ρ, ρ', ds[i], e2, r, e1, fun A' σ' e3 _ _ => ⟨c.pin l, A', n, ρ', _, e3, h1, ⟨?_, ?_, ?_, ?_⟩⟩⟩
    · exact fun A n σ H ρ h e4 => ⟨A, n, ρ, e4, h⟩
    · exact fun v r n H' h fr o => L.rt v r n H' h fr o
    · exact fun A n σ H ρ h e4 => L.nx A n σ H ρ h e4.unpin
    · exact fun A n σ H ρ h e4 => ⟨A, n, ρ, e4, h⟩
  · have z : i = ds.length := by omega
    subst z
    exact .inl ⟨q.2, L.nx A n σ H ρ (wd ρ n w) e'.unpin⟩
/-- while -/
def dWhile (t : DT) (F : DS) : DS := fun E ρ n => ∃ W : Nat → List DV → Int → Prop, (∃ m, W m ρ n) ∧ ∀ m ρ n, W m ρ n → t ρ n fun b n1 => if b = true then ∃ N : List DV → Int → Prop, (∀ ρ n, N ρ n → ∃ m', m' < m ∧ W m' ρ n) ∧ F { E with nx := N, ct := N, bk := E.nx } ρ n1 else E.nx ρ n1
theorem psWhile {X : Cx} {c : Expr} {body : List Stmt} {t : DT} {F : DS} {pos : Pos} (hp : PassesOwn (model X.prog X.w) X.A X.env X.xe) (hc : PT X c (tDT t)) (hb : PSs X body (sD F)) : PS X (.While c body [] pos) (sD (dWhile t F)) := (ps_while hp hc hb).imp fun D σ H ⟨c, A, n, ρ, E, e, ⟨W, ⟨m0, w0⟩, turn⟩, L⟩ => by
  refine ⟨fun m σ H => ∃ A n ρ, EnvA c A n σ H ρ ∧ W m ρ n, ⟨m0, A, n, ρ, e, w0⟩, ?_⟩
  rintro m σ H ⟨A, n, ρ, e, w⟩
  refine ⟨c, A, n, ρ, _, e, turn m ρ n w, fun b n1 H1 h f1 => ?_⟩
  cases b with
  | false => exact L.nx A n1 σ H1 ρ h (e.fr f1)
  | true =>
    obtain ⟨N, hN, hF⟩ := h
    refine ⟨fun σ H => ∃ A n ρ, EnvA c A n σ H ρ ∧ N ρ n, fun σ' H' ⟨A, n, ρ, e', w'⟩ => ?_, c, A, n1, ρ, _, e.fr f1, hF, ⟨?_, L.rt, ?_, ?_⟩⟩
    · obtain ⟨m', l, w2⟩ := hN ρ n w'
      exact ⟨m', l, A, n, ρ, e', w2⟩
    · exact fun A n σ H ρ h e4 => ⟨A, n, ρ, e4, h⟩
    · exact fun A n σ H ρ h e4 => L.nx A n σ H ρ h e4
    · exact fun A n σ H ρ h e4 => ⟨A, n, ρ, e4, h⟩

/-- comprehensions: the new list is kept apart -/
theorem EnvA.side {c : EC} {A : Nat → Option Addr} {n : Int} {σ : L2.St} {H : Hp} {ρ : List DV} (E : EnvA c A n σ H ρ) {D : Addr} {xs : List V} (hD : H D = none) (M : Nat) : ∃ k A', ρ.length ≤ k ∧ M ≤ k ∧ A' k = some D ∧ (∀ j, j ≠ k → A' j = A j) ∧ A k = none ∧ EnvA c A' n σ (upd H D (.lst xs)) ρ := by
  obtain ⟨N, hN⟩ := E.fin
  obtain ⟨Z, kN, kR, kM⟩ : ∃ Z, N ≤ Z ∧ ρ.length ≤ Z ∧ M ≤ Z := ⟨N + ρ.length + M, by omega, by omega, by omega⟩
  have same : ∀ j, j ≠ Z → (fun j => if j = Z then some D else A j) j = A j := fun j z => by show (if j = Z then some D else A j) = _; rw [if_neg z]
  have mine : (fun j => if j = Z then some D else A j) (Z) = some D := by show (if Z = Z then some D else A _) = _; rw [if_pos rfl]
  refine ⟨Z, fun j => if j = Z then some D else A j, kR, kM, mine, same, hN _ kN, ?_⟩
  have s := same_new (o := .lst xs) hD
  have xt : Xt (msk (c.av A) H) (msk (c.av fun j => if j = Z then some D else A j) (upd H D (.lst xs))) := fun b o q e => by
    obtain ⟨h1, h2⟩ := msk_some e
    rw [msk_out]
    · exact s b o h2
    · rintro (z | ⟨j, z⟩)
      · exact h1 (.inl z)
      · have z' : (if j = Z then some D else A j) = some b := z
        split at z'
        · cases z'
          rw [hD] at h2
          cases h2
        · exact h1 (.inr ⟨j, z'⟩)
  refine ⟨fun b o p q e => s b o (E.keep b o p q e), c.Gm n H _ E.g (fun b o _ _ h => s b o h) fun b o _ h => s b o h, fun j a e => ?_, fun j a e => ?_, fun i j a e1 e2 => ?_, fun i x e => ?_, E.len, fun p hp => (E.pin p hp).ex xt, ⟨Z + 1, fun k hk => ?_⟩, fun j a x e1 e2 => ?_⟩
  · have e' : (if j = Z then some D else A j) = some a := e
    split at e'
    · cases e'
      exact (Fresh.of hD).fr E.fr0
    · exact E.new j a e'
  · have e' : (if j = Z then some D else A j) = some a := e
    split at e'
    · cases e'
      exact ⟨_, upd_same, fun ps z => by cases z⟩
    · obtain ⟨o, h1, h2⟩ := E.has j a e'
      exact ⟨o, s a o h1, h2⟩
  · have e1' : (if i = Z then some D else A i) = some a := e1
    have e2' : (if j = Z then some D else A j) = some a := e2
    split at e1' <;> split at e2'
    · rename_i z1 z2
      rw [z1, z2]
    · cases e1'
      obtain ⟨o, h1, _⟩ := E.has j D e2'
      rw [hD] at h1
      cases h1
    · cases e2'
      obtain ⟨o, h1, _⟩ := E.has i D e1'
      rw [hD] at h1
      cases h1
    · exact E.inj i j a e1' e2'
  · have ni : i ≠ Z := by
      have := (List.getElem?_eq_some_iff.mp e).1
      omega
    show SlOk _ _ _ (if i = Z then some D else A i) _ _
    rw [if_neg ni]
    exact (E.slot i x e).ex xt fun a o _ _ h => s a o h
  · show (if k = Z then some D else A k) = none
    rw [if_neg (by omega)]
    exact hN k (by omega)
  · have nj : j ≠ Z := by
      have := (List.getElem?_eq_some_iff.mp e2).1
      omega
    have e1' : (if j = Z then some D else A j) = some a := e1
    rw [if_neg nj] at e1'
    exact E.mine j a x e1' e2
/-- the side list is no longer kept apart -/
theorem EnvA.unside {c : EC} {A A' : Nat → Option Addr} {n : Int} {σ : L2.St} {H : Hp} {ρ : List DV} {k : Nat} (E : EnvA c A' n σ H ρ) (hk : ρ.length ≤ k) (same : ∀ j, j ≠ k → A' j = A j) (hA : A k = none) : EnvA c A n σ H ρ := by
  have sub : ∀ {j : Nat} {a : Addr}, A j = some a → A' j = some a := fun {j a} e => by
    rw [same j (fun z => by rw [z, hA] at e; cases e)]
    exact e
  have xt : Xt (msk (c.av A') H) (msk (c.av A) H) := fun b o _ e => by
    obtain ⟨h1, h2⟩ := msk_some e
    rw [msk_out]
    · exact h2
    · rintro (z | ⟨j, z⟩)
      · exact h1 (.inl z)
      · exact h1 (.inr ⟨j, sub z⟩)
  refine ⟨E.keep, E.g, fun j a e => E.new j a (sub e), fun j a e => E.has j a (sub e), fun i j a e1 e2 => E.inj i j a (sub e1) (sub e2), fun i x e => ?_, E.len, fun p hp => (E.pin p hp).ex xt, ?_, fun j a x e1 e2 => E.mine j a x (sub e1) e2⟩
  · have ni : i ≠ k := by
      have := (List.getElem?_eq_some_iff.mp e).1
      omega
    rw [← same i ni]
    exact (E.slot i x e).ex xt fun _ _ _ _ h => h
  · obtain ⟨N, hN⟩ := E.fin
    refine ⟨max N (k + 1), fun j hj => ?_⟩
    have h1 := Nat.le_trans (Nat.le_max_left _ _) hj
    have h2 := Nat.le_trans (Nat.le_max_right N (k + 1)) hj
    rw [← same j (by omega)]
    exact hN j h1
def wipeD (ρ : List DV) : List Nat → List DV
  | [] => ρ
  | v :: vs => (wipeD ρ vs).set v .un
theorem wipeD_length (ρ : List DV) : ∀ vs : List Nat, (wipeD ρ vs).length = ρ.length
  | [] => rfl
  | v :: vs => by
    show ((wipeD ρ vs).set v .un).length = _
    rw [List.length_set]
    exact wipeD_length ρ vs
theorem EnvA.wipe {c : EC} {A : Nat → Option Addr} {n : Int} {σ : L2.St} {H : Hp} {ρ : List DV} (E : EnvA c A n σ H ρ) : ∀ vs : List Nat, (∀ j ∈ vs, A j = none) → EnvA c A n (L2.wipe σ vs) H (wipeD ρ vs)
  | [], _ => E
  | v :: vs, hv0 => by
    have E' := EnvA.wipe E vs fun j hj => hv0 j (List.mem_cons_of_mem _ hj)
    refine ⟨E'.keep, E'.g, E'.new, E'.has, E'.inj, fun i x e => ?_, ?_, E'.pin, E'.fin, fun j a x e1 e2 => ?_⟩
    · have e' : ((wipeD ρ vs).set v .un)[i]? = some x := e
      show SlOk _ _ _ _ (((L2.wipe σ vs).set v none)[i]?) x
      by_cases z : v = i
      · subst z
        have hv : v < (wipeD ρ vs).length := by
          have := (List.getElem?_eq_some_iff.mp e').1
          rwa [List.length_set] at this
        rw [List.getElem?_set_self hv] at e'
        cases e'
        exact True.intro
      · rw [List.getElem?_set_ne z] at e' ⊢
        exact E'.slot i x e'
    · show ((wipeD ρ vs).set v .un).length = ((L2.wipe σ vs).set v none).length
      rw [List.length_set, List.length_set]
      exact E'.len
    · have e' : ((wipeD ρ vs).set v .un)[j]? = some x := e2
      by_cases z : v = j
      · subst z
        rw [hv0 v List.mem_cons_self] at e1
        cases e1
      · rw [List.getElem?_set_ne z] at e'
        exact E'.mine j a x e1 e'
theorem wipe_eq {σ σ' : L2.St} {vs : List Nat} (hl : σ'.length = (wipe σ vs).length) (h : ∀ j, j ∉ vs → σ'[j]? = (wipe σ vs)[j]?) : wipe σ' vs = wipe σ vs := by
  apply List.ext_getElem?
  intro j
  by_cases hj : j ∈ vs
  · have none_at : ∀ (τ : L2.St) (vs : List Nat), j ∈ vs → j < τ.length → (wipe τ vs)[j]? = some none := by
      intro τ vs
      induction vs with
      | nil => intro h; cases h
      | cons v vs ih =>
        intro hm hl
        show ((wipe τ vs).set v none)[j]? = some none
        by_cases z : v = j
        · subst z
          exact List.getElem?_set_self (by rw [wipe_length]; exact hl)
        · rw [List.getElem?_set_ne z]
          rcases List.mem_cons.mp hm with e | e
          · exact (z e.symm).elim
          · exact ih e hl
    rw [wipe_length] at hl
    by_cases q : j < σ.length
    · rw [none_at σ' vs hj (by rw [hl]; exact q), none_at σ vs hj q]
    · rw [List.getElem?_eq_none (by rw [wipe_length, hl]; omega), List.getElem?_eq_none (by rw [wipe_length]; omega)]
  · rw [wipe_out hj]
    exact h j hj
def dYes : DT := fun _ n Q => Q true n
abbrev LcOk (g : DG) (t : DT) (h : DF) (vs : List Nat) (ρ : List DV) (Q : DQ) (ds : List PyData) (n1 : Int) : Prop := (vs.all fun j => match ρ[j]? with | some x => !x.isOwn | none => false) = true ∧ ds.length ≤ 100000 ∧ ∃ W : Nat → List PyData → Int → Prop, W 0 [] n1 ∧
  (∀ i d acc n, ds[i]? = some d → W i acc n → ∃ ρ', g d (wipeD ρ vs) = some ρ' ∧ t ρ' n fun b n2 => if b = true then h ρ' n2 fun r n3 => ∃ y, r.dat = some y ∧ W (i + 1) (acc ++ [y]) n3 else W (i + 1) acc n2) ∧ ∀ acc n, W ds.length acc n → Q (.own acc) n
def dLc (f : DI) (g : DG) (t : DT) (h : DF) (vs : List Nat) : DF := fun ρ n Q => f ρ n fun ds n1 => LcOk g t h vs ρ Q ds n1
/-- [h x for x in xs] -/
theorem lcMap {g : DG} {h : DF} {vs : List Nat} {ρ : List DV} {n : Int} {Q : DQ} {ds : List PyData} (out : List PyData) (own : (vs.all fun j => match ρ[j]? with | some x => !x.isOwn | none => false) = true) (big : ds.length ≤ 100000) (hl : out.length = ds.length)
    (step : ∀ (i : Nat) (d y : PyData), ds[i]? = some d → out[i]? = some y → ∃ ρ', g d (wipeD ρ vs) = some ρ' ∧ ∀ R : DQ, (∀ r, r.dat = some y → R r n) → h ρ' n R) (q : Q (.own out) n) : LcOk g (fun _ n Q => Q true n) h vs ρ Q ds n := by
  refine ⟨own, big, fun i acc m => m = n ∧ acc = out.take i, ⟨rfl, rfl⟩, ?_, ?_⟩
  · rintro i d acc m hd ⟨rfl, rfl⟩
    have hi : i < out.length := by rw [hl]; exact (List.getElem?_eq_some_iff.mp hd).1
    obtain ⟨y, ey⟩ : ∃ y, out[i]? = some y := ⟨_, List.getElem?_eq_getElem hi⟩
    obtain ⟨ρ', e1, h1⟩ := step i d y hd ey
    refine ⟨ρ', e1, ?_⟩
    show (if true = true then _ else _)
    rw [if_pos rfl]
    exact h1 _ fun r er => ⟨y, er, rfl, by rw [List.take_succ, ey]; rfl⟩
  · rintro acc m ⟨rfl, rfl⟩
    rw [← hl, List.take_length]
    exact q
/-- [x for x in xs if p x] -/
theorem lcFil {g : DG} {t : DT} {h : DF} {vs : List Nat} {ρ : List DV} {n : Int} {Q : DQ} {ds : List PyData} (p : PyData → Bool) (own : (vs.all fun j => match ρ[j]? with | some x => !x.isOwn | none => false) = true) (big : ds.length ≤ 100000)
    (step : ∀ d, d ∈ ds → ∃ ρ', g d (wipeD ρ vs) = some ρ' ∧ (∀ R : Bool → Int → Prop, R (p d) n → t ρ' n R) ∧ ∀ R : DQ, R (.d d) n → h ρ' n R) (q : Q (.own (ds.filter p)) n) : LcOk g t h vs ρ Q ds n := by
  refine ⟨own, big, fun i acc m => m = n ∧ acc = (ds.take i).filter p, ⟨rfl, rfl⟩, ?_, ?_⟩
  · rintro i d acc m hd ⟨rfl, rfl⟩
    obtain ⟨ρ', e1, h1, h2⟩ := step d (List.mem_of_getElem? hd)
    refine ⟨ρ', e1, h1 _ ?_⟩
    have et : (ds.take (i + 1)).filter p = (ds.take i).filter p ++ if p d = true then [d] else [] := by
      rw [List.take_succ, hd, List.filter_append]
      congr 1
      cases e : p d with
      | true => simp [e]
      | false => simp [e]
    cases e : p d with
    | true =>
      rw [if_pos rfl]
      refine h2 _ ⟨d, rfl, rfl, ?_⟩
      rw [et, e, if_pos rfl]
    | false =>
      rw [if_neg Bool.false_ne_true]
      refine ⟨rfl, ?_⟩
      rw [et, e, if_neg Bool.false_ne_true, List.append_nil]
  · rintro acc m ⟨rfl, rfl⟩
    rw [List.take_length] at *
    exact q
theorem bound_of (vs : List Nat) : ∃ M, ∀ j ∈ vs, j < M := by
  induction vs with
  | nil => exact ⟨0, fun j h => by cases h⟩
  | cons v vs ih =>
    obtain ⟨M, h⟩ := ih
    refine ⟨M + v + 1, fun j hj => ?_⟩
    rcases List.mem_cons.mp hj with e | e
    · omega
    · have := h j e
      omega
theorem lc_le {f : DI} {g : DG} {sl vs : List Nat} {t : DT} {tt : TT} {h : DF} (hsl : ∀ j ∈ sl, j ∈ vs) (ht : ∀ σ H Q, tDT t σ H Q → tt σ H Q) (σ : L2.St) (H : Hp) (Q : VK) (q : tD (dLc f g t h vs) σ H Q) : tLc (iD f) (gD sl g) tt (tD h) vs σ H Q := by
  obtain ⟨c, A, n, ρ, Q', E, hf, k⟩ := q
  refine ⟨c, A, n, ρ, _, E, hf, fun ds J n1 H1 l ⟨nown, big, W, w0, ws, wd⟩ f1 pins wD D hD => ?_⟩
  have E1 := E.fr f1
  obtain ⟨M, hM⟩ := bound_of vs
  obtain ⟨kD, A1, hk, hkM, hA1, sameA, hAk, ES⟩ := E1.side (xs := []) hD M
  have vA1 : ∀ j ∈ vs, A1 j = none := fun j hj => by
    have hb := List.all_eq_true.mp nown j hj
    have nk : j ≠ kD := by
      have := hM j hj
      omega
    cases e : A1 j with
    | none => rfl
    | some a =>
      cases er : ρ[j]? with
      | none =>
        rw [er] at hb
        cases hb
      | some x =>
        have := ES.mine j a x e er
        rw [er] at hb
        have hb' : (!x.isOwn) = true := hb
        rw [this] at hb'
        cases hb'
  have Ep : EnvA (c.pin l) A1 n1 σ (upd H1 D (.lst [])) ρ := ES.pins fun p hp => (pins p hp).ex fun b o q e => by
    obtain ⟨h1, h2⟩ := msk_some e
    have nb : b ≠ D := fun z => by rw [z, hD] at h2; cases h2
    rw [msk_out]
    · rw [upd_ne nb]; exact h2
    · rintro (z | ⟨j, z⟩)
      · exact h1 (.inl z)
      · by_cases e : j = kD
        · rw [e, hA1] at z
          exact nb (Option.some.inj z).symm
        · rw [sameA j e] at z
          exact h1 (.inr ⟨j, z⟩)
  refine ⟨fun i m H2 => m = ds.length - i ∧ i ≤ ds.length ∧ ∃ n vals acc, EnvA (c.pin l) A1 n σ H2 ρ ∧ H2 D = some (.lst vals) ∧ RpA (msk (c.av A1) H2) vals acc ∧ acc.length ≤ i ∧ W i acc n ∧ (∀ b o, ¬ c.P b → (∀ ps, o ≠ HO.tbl ps) → H1 b = some o → H2 b = some o), ⟨ds.length, by simp, Nat.zero_le _, n1, [], [], Ep, upd_same, .nil, Nat.le_refl _, w0, fun b o _ _ e => by rw [upd_ne (ne_of_none e hD)]; exact e⟩, ?_⟩
  rintro i m H2 ⟨rfl, hi, n2, vals, acc, e2, hv, rv, la, w, kp⟩
  have qD := wD A1 n2 σ H2 ρ e2
  have nD : ¬ c.P D := fun p => (e2.nP hA1) (c.PB D p)
  have avD : c.av A1 D := .inr ⟨kD, hA1⟩
  by_cases hlt : i < ds.length
  · obtain ⟨go, yl⟩ := qD.1 i ds[i] (List.getElem?_eq_getElem hlt)
    refine .inr ⟨go, fun H2 => ∃ n vals acc, EnvA (c.pin l) A1 n σ H2 ρ ∧ H2 D = some (.lst vals) ∧ RpA (msk (c.av A1) H2) vals acc ∧ acc.length ≤ i + 1 ∧ W (i + 1) acc n ∧ (∀ b o, ¬ c.P b → (∀ ps, o ≠ HO.tbl ps) → H1 b = some o → H2 b = some o), fun H' w' => ⟨ds.length - (i + 1), by omega, rfl, hlt, w'⟩, fun x H3 y => ?_⟩
    obtain ⟨s3, r3⟩ := yl x H3 y
    obtain ⟨ρ', eg, et⟩ := ws i ds[i] acc n2 (List.getElem?_eq_getElem hlt) w
    have f3 : Fr (c.pin l) n2 H2 H3 := Fr.same e2.g s3
    have e3 : EnvA (c.pin l) A1 n2 (L2.wipe σ vs) H3 (wipeD ρ vs) := (e2.fr f3).wipe vs vA1
    refine ⟨c.pin l, A1, n2, _, ρ', ds[i], e3, r3, eg, fun A' σ' e4 l4 o4 => ⟨wipe_eq l4 fun j hj => (o4 j fun z => hj (hsl j z)).1, ?_⟩⟩
    have back : ∀ {n5 : Int} {H5 : Hp}, Fr (c.pin l) n5 H3 H5 → EnvA (c.pin l) A1 n5 σ H5 ρ ∧ H5 D = some (.lst vals) ∧ RpA (msk (c.av A1) H5) vals acc ∧ (∀ b o, ¬ c.P b → (∀ ps, o ≠ HO.tbl ps) → H1 b = some o → H5 b = some o) := fun {n5 H5} f5 => by
      have f25 := f3.trans f5
      exact ⟨e2.fr f25, f25.1 D _ nD (fun ps z => by cases z) hv, rv.ex f25.msk, fun b o p q e => f25.1 b o p q (kp b o p q e)⟩
    refine ht σ' H3 _ ⟨c.pin l, A', n2, ρ', _, e4, et, fun b n4 H4 hb f4 => ?_⟩
    cases b with
    | false =>
      obtain ⟨b1, b2, b3, b4⟩ := back f4
      exact ⟨n4, vals, acc, b1, b2, b3, Nat.le_succ_of_le la, hb, b4⟩
    | true =>
      refine ⟨c.pin l, A', n4, ρ', _, e4.fr f4, hb, fun v r n5 H5 ⟨y, ey, hw⟩ f5 o5 => ?_⟩
      obtain ⟨b1, b2, b3, b4⟩ := back (f4.trans f5)
      have ry := o5.dat (e4.fr f4) ey
      have ll : vals.length < sizeLine := big_lt (by rw [rv.length]; omega)
      refine ⟨vals, b2, ll, ?_⟩
      have ry1 : Rp (msk (c.av A1) H5) v y := ry.ex fun b o _ e => by
        obtain ⟨h1, h2⟩ := msk_some e
        rw [msk_out]
        · exact h2
        · rintro (z | ⟨j, z⟩)
          · exact h1 (.inl z)
          · by_cases hj : j ∈ sl
            · rw [vA1 j (hsl j hj)] at z
              cases z
            · exact h1 (.inr ⟨j, by rw [(o4 j hj).2]; exact z⟩)
      have mk : msk (c.av A1) (upd H5 D (.lst (vals ++ [v]))) = msk (c.av A1) H5 := by
        funext b
        by_cases z : c.av A1 b
        · unfold msk
          rw [if_pos z, if_pos z]
        · rw [msk_out z, msk_out z, upd_ne (fun e => z (by rw [e]; exact avD))]
      have m1 := b1.mut (r := .un) (u := .lst (vals ++ [v])) hA1 b2 (.inl ⟨_, rfl⟩) (fun ps z => by cases z) True.intro (fun z => by omega)
      rw [List.set_eq_of_length_le hk] at m1
      refine ⟨n5, vals ++ [v], acc ++ [y], m1, upd_same, by rw [mk]; exact b3.app (.one ry1), by rw [List.length_append]; show acc.length + 1 ≤ _; omega, hw, fun b o p q e => ?_⟩
      rw [upd_ne (fun z => by rw [z, hD] at e; cases e)]
      exact b4 b o p q e
  · have z : i = ds.length := by omega
    subst z
    refine .inl ⟨qD.2, ?_⟩
    have fE : Fr c n2 H1 H2 := ⟨kp, e2.g⟩
    refine k _ _ n2 H2 (wd acc n2 w) (f1.trans fE) ⟨D, vals, rfl, (Fresh.of hD).fr f1, hv, rv.ex fun b o _ e => ?_⟩
    obtain ⟨h1, h2⟩ := msk_some e
    rw [msk_out]
    · exact h2
    · rintro ((z | ⟨j, z⟩) | z)
      · exact h1 (.inl z)
      · by_cases e : j = kD
        · rw [e, hAk] at z
          cases z
        · exact h1 (.inr ⟨j, by rw [sameA j e]; exact z⟩)
      · exact h1 (by rw [z]; exact avD)
end

/-! ### data readings: defs, operators, built-ins -/
section
variable [Fam] [Tabz]
theorem VsOk.get {t : V} {B : Addr → Prop} {H H' : Hp} : ∀ {vs : List V} {rs : List DV} {i : Nat} {r : DV}, VsOk t B H H' vs rs → rs[i]? = some r → ∃ v, vs[i]? = some v ∧ VOk t B H v H' r ∧ r.cold = r
  | _, _, _, _, .nil, e => by simp at e
  | _, _, 0, _, .cons h ec _, e => by
    simp at e
    subst e
    exact ⟨_, rfl, h, ec⟩
  | _, _, i + 1, r, .cons _ _ t, e => by
    obtain ⟨v, h1, h2⟩ := VsOk.get (i := i) (r := r) t (by simpa using e)
    exact ⟨v, by simpa using h1, h2⟩
theorem VsOk.length {t : V} {B : Addr → Prop} {H H' : Hp} : ∀ {vs : List V} {rs : List DV}, VsOk t B H H' vs rs → vs.length = rs.length
  | _, _, .nil => rfl
  | _, _, .cons _ _ t => by
    show _ + 1 = _ + 1
    rw [VsOk.length t]
section
variable {P : Program} {w : World} {K : PySem.W.Frag} {mg : Str → Option Value} {base : Heap}
theorem okD {x qual : Str} {st : Stmt} {f : Addr} {fd : FuncData} {N ps : List Str} {k : Nat} {F : DS} {m : DM} (Fn : Fun K x qual st f fd) (S : FnScope N ps (defScope st)) (len : ∀ rs n Q, m rs n Q → plainR rs ∧ rs.length = ps.length)
    (body : ∀ (cdv : Value) (A : Around) (outer : List Env) (s : Shared) (H : Hp) (E : XK), Room k (A.deeper (PyProof.Rows.envOfC qual (defScope st) s.heap.objs.size f cdv)) → PSs (cxOf CX0 P w K mg base N qual (defScope st) f cdv A outer s H E).nox (defBody st) (sD F))
    (data : ∀ rs n Q, m rs n Q → F { nx := fun _ n => Q (.d .none) n, rt := Q } (rs ++ List.replicate (N.length - rs.length) .un) n) : FnOk P w K mg base CX0 (k + 1) f fd ps (spD m) := by
  refine Fn.ok S (fun vs H Q E ⟨c, n, rs, Q', h0, g, pn, ok, hm, _⟩ => ?_) (fun cdv A outer s H vs Q E hr ⟨c, n, rs, Q', h0, g, pn, ok, hm, kk⟩ => ⟨_, body cdv A outer s H E hr, c, fun _ => none, n, _, { nx := fun _ n => Q' (.d .none) n, rt := Q' }, ?_, data rs n Q' hm, ?_⟩)
  · rw [ok.length]
    exact (len _ _ _ hm).2
  · subst h0
    have av : ∀ {b : Addr}, c.av (fun _ => none) b → c.B b := fun {b} z => z.elim id fun ⟨i, e⟩ => by cases e
    have xt : Xt (msk c.B c.H0) (msk (c.av fun _ => none) c.H0) := fun b o _ e => by
      obtain ⟨h1, h2⟩ := msk_some e
      rw [msk_out fun z => h1 (av z)]
      exact h2
    refine ⟨fun b o _ _ e => e, g, fun i a e => (by cases e), fun i a e => (by cases e), fun i j a e => (by cases e), fun i y e => ?_, ?_, fun p hp => (by rw [pn] at hp; cases hp), ⟨0, fun _ _ => rfl⟩, fun i a y e => (by cases e)⟩
    · by_cases hi : i < rs.length
      · rw [List.getElem?_append_left hi] at e
        obtain ⟨v, h1, h2, h3⟩ := ok.get e
        have hs : (L2.start N vs)[i]? = some (some v) := by
          unfold L2.start
          rw [List.getElem?_append_left (by rw [List.length_map, ok.length]; exact hi), List.getElem?_map, h1]
          rfl
        rw [hs]
        cases y with
        | un => exact h2.elim
        | raw v => exact h2.elim
        | tape => 
          refine ⟨?_, h2.2⟩
          rw [show v = c.t from h2.1]
        | d z => exact ⟨v, rfl, Rp.ex h2 xt⟩
        | own ds => cases h3
        | dic kvs => 
          rcases (len _ _ _ hm).1 _ (List.mem_of_getElem? e) with ⟨d, q⟩ | q <;> cases q
      · rw [List.getElem?_append_right (by omega), List.getElem?_replicate] at e
        split at e
        · cases e
          exact True.intro
        · cases e
    · unfold L2.start
      rw [List.length_append, List.length_append, List.length_map, List.length_replicate, List.length_replicate, ok.length]
  · subst h0
    refine ⟨fun A n σ H' ρ h e => ?_, fun v r n H' h fr o => kk v r n H' h fr o, fun A n σ H ρ h e => h.elim, fun A n σ H ρ h e => h.elim⟩
    exact kk .non _ n H' h e.fr0 Rp.non
end
theorem yes_le (σ : L2.St) (H : Hp) (Q : Bool → Hp → Prop) (q : tDT dYes σ H Q) : tYes σ H Q := by
  obtain ⟨c, A, n, ρ, Q', E, hf, k⟩ := q
  exact k true n H hf (.refl E.g)
theorem set_le2 {i : Nat} {f : DF} {te : TE} (h : ∀ σ H Q, tD f σ H Q → te σ H Q) (D : Ends) (σ : L2.St) (H : Hp) (q : sD (dSet i f) D σ H) : tAsg te (gName i) D σ H := by
  obtain ⟨c, A, n, ρ, E, e, hf, L⟩ := q
  refine h _ _ _ ⟨c, A, n, ρ, _, e, hf, fun v r n1 H1 ⟨hi, h1⟩ f1 o1 => ?_⟩
  obtain ⟨A', e'⟩ := e.put f1 o1 hi
  exact L.nx _ _ _ _ _ h1 e'
/-- ints -/
def opI (g : Int → Int → PyData) : PyData → PyData → Option DV
  | .int a, .int b => some (.d (g a b))
  | _, _ => none
theorem r2I {g : Int → Int → V} {g' : Int → Int → PyData} (h : ∀ i j, datC (g i j) = some (g' i j)) : R2D (rI0 g) (opI g') := by
  intro t B H v w a b z Q _ ra rb e k
  cases ra <;> cases rb <;> cases e
  exact ⟨_, _, rfl, rfl, k _ H (fun _ _ h => h) (datC_rp (h _ _))⟩
def opIc (C : Int → Int → Bool) (g : Int → Int → PyData) : PyData → PyData → Option DV
  | .int a, .int b => if C a b = true then some (.d (g a b)) else none
  | _, _ => none
theorem r2Ic {C : Int → Int → Prop} {Cb : Int → Int → Bool} (hC : ∀ i j, Cb i j = true → C i j) {g : Int → Int → V} {g' : Int → Int → PyData} (h : ∀ i j, datC (g i j) = some (g' i j)) : R2D (rI C g) (opIc Cb g') := by
  intro t B H v w a b z Q _ ra rb e k
  cases ra <;> cases rb <;> simp only [opIc, reduceCtorEq] at e
  split at e
  · cases e
    exact ⟨_, _, rfl, rfl, hC _ _ (by assumption), k _ H (fun _ _ h => h) (datC_rp (h _ _))⟩
  · cases e
abbrev opAdd := opI fun i j => .int (i + j)
abbrev opSub := opI fun i j => .int (i - j)
abbrev opLt := opI fun i j => .bool (decide (i < j))
abbrev opLe := opI fun i j => .bool (decide (i ≤ j))
abbrev opGt := opI fun i j => .bool (decide (j < i))
abbrev opGe := opI fun i j => .bool (decide (j ≤ i))
theorem r2Add : R2D (rI0 fun i j => .int (i + j)) opAdd := r2I fun _ _ => rfl
theorem r2Sub : R2D (rI0 fun i j => .int (i - j)) opSub := r2I fun _ _ => rfl
theorem r2Lt : R2D (rI0 fun i j => .bl (decide (i < j))) opLt := r2I fun _ _ => rfl
theorem r2Le : R2D (rI0 fun i j => .bl (decide (i ≤ j))) opLe := r2I fun _ _ => rfl
theorem r2Gt : R2D (rI0 fun i j => .bl (decide (j < i))) opGt := r2I fun _ _ => rfl
theorem r2Ge : R2D (rI0 fun i j => .bl (decide (j ≤ i))) opGe := r2I fun _ _ => rfl
instance (i j : Int) : Decidable (CMulW i j) := inferInstanceAs (Decidable (_ < _))
instance (i j : Int) : Decidable (CDivW i j) := inferInstanceAs (Decidable (_ ∧ _))
abbrev opMul := opIc (fun i j => decide (CMulW i j)) fun i j => .int (i * j)
theorem r2Mul : R2D (rI CMulW fun i j => .int (i * j)) opMul := r2Ic (fun _ _ h => of_decide_eq_true h) fun _ _ => rfl
abbrev opDiv := opIc (fun i j => decide (CDivW i j)) fun i j => .int (i / j)
theorem r2Div : R2D (rI CDivW fun i j => .int (i / j)) opDiv := r2Ic (fun _ _ h => of_decide_eq_true h) fun _ _ => rfl
abbrev opMod := opIc (fun _ j => decide (0 < j)) fun i j => .int (i % j)
theorem r2Mod : R2D (rI (fun _ j => 0 < j) fun i j => .int (i % j)) opMod := r2Ic (fun _ _ h => of_decide_eq_true h) fun _ _ => rfl
instance (i j : Int) : Decidable (CPow i j) := inferInstanceAs (Decidable (_ ∧ _))
abbrev opPow := opIc (fun i j => decide (CPow i j)) fun i j => .int (i ^ j.toNat)
theorem r2Pow : R2D (rI CPow fun i j => .int (i ^ j.toNat)) opPow := r2Ic (fun _ _ h => of_decide_eq_true h) fun _ _ => rfl
def opNeg : PyData → Option DV
  | .int a => some (.d (.int (-a)))
  | _ => none
theorem r1Neg : R1D (rU fun i => .int (-i)) opNeg := by
  intro t B H v a z Q _ ra e k
  cases ra <;> cases e
  exact ⟨_, rfl, k _ H (fun _ _ h => h) (Rp.int _)⟩
/-- ==, != of what is no list: None, truths, ints, texts -/
def sEq : PyData → PyData → Option Bool
  | .none, .none => some true
  | .none, .int _ => some false
  | .int _, .none => some false
  | .none, .bool _ => some false
  | .bool _, .none => some false
  | .none, .str _ => some false
  | .str _, .none => some false
  | .int a, .int b => some (decide (a = b))
  | .bool a, .bool b => some (decide (a = b))
  | .str a, .str b => some (decide (a = b))
  | _, _ => none
def opEq : PyData → PyData → Option DV := fun a b => (sEq a b).map fun c => .d (.bool c)
def opNe : PyData → PyData → Option DV := fun a b => (sEq a b).map fun c => .d (.bool (!c))
theorem sEq_ok {M : Hp} {v w : V} {a b : PyData} {c : Bool} (ra : Rp M v a) (rb : Rp M w b) (e : sEq a b = some c) : scal v w = true ∧ decide (v = w) = c := by
  cases ra <;> cases rb <;> cases e <;> refine ⟨rfl, ?_⟩ <;> first | rfl | (simp)
theorem r2Eq : R2D rEq opEq := by
  intro t B H v w a b z Q _ ra rb e k
  unfold opEq at e
  cases q : sEq a b with
  | none => rw [q] at e; cases e
  | some c =>
    rw [q] at e
    cases e
    obtain ⟨h1, h2⟩ := sEq_ok ra rb q
    refine ⟨h1, k _ H (fun _ _ h => h) ?_⟩
    rw [h2]
    exact Rp.bl c
theorem r2Ne : R2D rNe opNe := by
  intro t B H v w a b z Q _ ra rb e k
  unfold opNe at e
  cases q : sEq a b with
  | none => rw [q] at e; cases e
  | some c =>
    rw [q] at e
    cases e
    obtain ⟨h1, h2⟩ := sEq_ok ra rb q
    refine ⟨h1, k _ H (fun _ _ h => h) ?_⟩
    rw [h2]
    exact Rp.bl _
/-- ==, !=, in of data of any depth -/
def opEqD : PyData → PyData → Option DV := fun a b => if SeqAt.shaped a = true ∧ SeqAt.shaped b = true then some (.d (.bool (PyData.eqv a b))) else none
def opNeD : PyData → PyData → Option DV := fun a b => if SeqAt.shaped a = true ∧ SeqAt.shaped b = true then some (.d (.bool (!PyData.eqv a b))) else none
theorem up_msk {K : PySem.W.Frag} {B : Addr → Prop} {H : Hp} {v : V} {a : PyData} (r : Rp (msk B H) v a) : Dp K H v a := (r.ex msk_le).dp
theorem r2EqD {K : PySem.W.Frag} : R2D (rEqD K) opEqD := by
  intro t B H v w a b z Q _ ra rb e k
  unfold opEqD at e
  split at e
  · rename_i h
    cases e
    exact ⟨a, b, up_msk ra, up_msk rb, h.1, h.2, k _ H (fun _ _ h => h) (Rp.bl _)⟩
  · cases e
theorem r2NeD {K : PySem.W.Frag} : R2D (rNeD K) opNeD := by
  intro t B H v w a b z Q _ ra rb e k
  unfold opNeD at e
  split at e
  · rename_i h
    cases e
    exact ⟨a, b, up_msk ra, up_msk rb, h.1, h.2, k _ H (fun _ _ h => h) (Rp.bl _)⟩
  · cases e
def opIn (neg : Bool) : PyData → PyData → Option DV := fun a b => match b with
  | .list ds => if SeqAt.shaped a = true ∧ SeqAt.shaped (.list ds) = true then some (.d (.bool (if neg then !ds.any fun z => PyData.eqv z a else ds.any fun z => PyData.eqv z a))) else none
  | _ => none
theorem r2In {K : PySem.W.Frag} : R2D (rInD K) (opIn false) := by
  intro t B H v w a b z Q _ ra rb e k
  cases rb <;> simp only [opIn, reduceCtorEq] at e
  split at e
  · rename_i h1 h2 h
    cases e
    exact ⟨a, _, up_msk ra, (Rp.lst h1 h2 |> fun r => up_msk r), h.1, h.2, k _ H (fun _ _ h => h) (Rp.bl _)⟩
  · cases e
theorem r2NotIn {K : PySem.W.Frag} : R2D (rNotInD K) (opIn true) := by
  intro t B H v w a b z Q _ ra rb e k
  cases rb <;> simp only [opIn, reduceCtorEq] at e
  split at e
  · rename_i h1 h2 h
    cases e
    exact ⟨a, _, up_msk ra, (Rp.lst h1 h2 |> fun r => up_msk r), h.1, h.2, k _ H (fun _ _ h => h) (Rp.bl _)⟩
  · cases e
def isN : PyData → Bool
  | .none => true
  | _ => false
def opIsN (neg : Bool) : PyData → PyData → Option DV := fun a b => match b with
  | .none => some (.d (.bool (if neg then !isN a else isN a)))
  | _ => none
theorem isN_ok {M : Hp} {v : V} {a : PyData} (r : Rp M v a) : decide (v = .non) = isN a := by
  cases r <;> rfl
theorem r2IsN : R2D (fun x y H Q => y = .non ∧ Q (.bl (decide (x = .non))) H) (opIsN false) := by
  intro t B H v w a b z Q _ ra rb e k
  cases rb <;> cases e
  refine ⟨rfl, ?_⟩
  rw [isN_ok ra]
  exact k _ H (fun _ _ h => h) (Rp.bl _)
theorem r2NotN : R2D (fun x y H Q => y = .non ∧ Q (.bl (!decide (x = .non))) H) (opIsN true) := by
  intro t B H v w a b z Q _ ra rb e k
  cases rb <;> cases e
  refine ⟨rfl, ?_⟩
  rw [isN_ok ra]
  exact k _ H (fun _ _ h => h) (Rp.bl _)
/-- items -/
theorem RpA.atI {M : Hp} {vs : List V} {ds : List PyData} {i : Int} {d : PyData} (r : RpA M vs ds) (e : atI ds i = some d) : ∃ v, atI vs i = some v ∧ Rp M v d := by
  unfold L2.atI at e ⊢
  rw [r.length]
  cases q : ixN ds.length i with
  | none => rw [q] at e; cases e
  | some j =>
    rw [q] at e
    exact r.get e
def opIxL : PyData → PyData → Option DV
  | .list ds, .int i => (atI ds i).map .d
  | _, _ => none
def opIxT : PyData → PyData → Option DV
  | .tuple ds, .int i => (atI ds i).map .d
  | _, _ => none
theorem r2IxL {K : PySem.W.Frag} : R2D (rIxL K) opIxL := by
  intro t B H v w a b z Q _ ra rb e k
  cases ra <;> cases rb <;> simp only [opIxL, reduceCtorEq] at e
  rename_i h1 h2 i
  cases q : atI _ i with
  | none => rw [q] at e; cases e
  | some d =>
    rw [q] at e
    cases e
    obtain ⟨u, e1, r1⟩ := h2.atI q
    exact ⟨_, _, i, u, rfl, rfl, SqL.of (msk_some h1).2, e1, k _ H (fun _ _ h => h) r1⟩
theorem r2IxT {K : PySem.W.Frag} : R2D (rIxT K) opIxT := by
  intro t B H v w a b z Q _ ra rb e k
  cases ra <;> cases rb <;> simp only [opIxT, reduceCtorEq] at e
  rename_i h1 h2 i
  cases q : atI _ i with
  | none => rw [q] at e; cases e
  | some d =>
    rw [q] at e
    cases e
    obtain ⟨u, e1, r1⟩ := h2.atI q
    exact ⟨_, _, i, u, rfl, rfl, SqT.of (msk_some h1).2, e1, k _ H (fun _ _ h => h) r1⟩
/-- a new list of what lists hold -/
theorem new_own {t : V} {B : Addr → Prop} {H : Hp} {p : Addr} {vs : List V} {ds : List PyData} (hp : H p = none) (h : RpA (msk B H) vs ds) : VOk t B H (.ref p) (upd H p (.lst vs)) (.own ds) := by
  refine ⟨p, vs, rfl, .of hp, upd_same, h.ex fun b o _ e => ?_⟩
  obtain ⟨h1, h2⟩ := msk_some e
  have ne : b ≠ p := ne_of_none h2 hp
  rw [msk_out (fun z => z.elim h1 ne), upd_ne ne]
  exact h2
theorem new_tup {t : V} {B : Addr → Prop} {H : Hp} {p : Addr} {vs : List V} {ds : List PyData} (hB : ∀ b, B b → ∃ o, H b = some o) (hp : H p = none) (h : RpA (msk B H) vs ds) : VOk t B H (.ref p) (upd H p (.tup vs)) (.d (.tuple ds)) := by
  refine .tup (by rw [msk_out fun z => by obtain ⟨o, e⟩ := hB p z; rw [hp] at e; cases e]; exact upd_same) (h.ex fun b o _ e => ?_)
  obtain ⟨h1, h2⟩ := msk_some e
  rw [msk_out h1, upd_ne (ne_of_none h2 hp)]
  exact h2
def opCat : PyData → PyData → Option DV
  | .list a, .list b => if a.length + b.length ≤ 200000 then some (.own (a ++ b)) else none
  | _, _ => none
theorem r2Cat : R2D rCat opCat := by
  intro t B H v w a b z Q _ ra rb e k
  cases ra <;> cases rb <;> simp only [opCat, reduceCtorEq] at e
  rename_i h1 h2 _ _ _ h3 h4
  split at e
  · rename_i hz
    cases e
    refine ⟨_, _, _, _, rfl, rfl, (msk_some h1).2, (msk_some h3).2, ?_, fun p hp => k _ _ (same_new hp) (new_own hp (h2.app h4))⟩
    rw [h2.length, h4.length]
    exact Nat.le_trans hz (by decide)
  · cases e
/-- built-ins over data -/
def bLen : List PyData → Option DV
  | [.list ds] => some (.d (.int (ds.length : Nat)))
  | [.tuple ds] => some (.d (.int (ds.length : Nat)))
  | _ => none
theorem rsLen {K : PySem.W.Frag} : RsD (fun xs H Q => ∃ p ys, xs = [.ref p] ∧ (SqL K H p ys ∨ SqT K H p ys) ∧ Q (.int ys.length) H) bLen := by
  intro t B H vs as z Q _ r e k
  cases r with
  | nil => cases e
  | cons r t =>
    cases t with
    | cons _ _ => cases r <;> cases e
    | nil =>
      cases r <;> cases e
      · rename_i h1 h2
        refine ⟨_, _, rfl, .inl (SqL.of (msk_some h1).2), k _ H (fun _ _ h => h) ?_⟩
        rw [h2.length]
        exact Rp.int _
      · rename_i h1 h2
        refine ⟨_, _, rfl, .inr (SqT.of (msk_some h1).2), k _ H (fun _ _ h => h) ?_⟩
        rw [h2.length]
        exact Rp.int _
def bList : List PyData → Option DV
  | [.list ds] => some (.own ds)
  | [.tuple ds] => some (.own ds)
  | _ => none
theorem rsList {K : PySem.W.Frag} : RsD (fun xs H Q => ∃ p ys, xs = [.ref p] ∧ (SqL K H p ys ∨ SqT K H p ys) ∧ ∀ l, H l = none → Q (.ref l) (upd H l (.lst ys))) bList := by
  intro t B H vs as z Q _ r e k
  cases r with
  | nil => cases e
  | cons r t =>
    cases t with
    | cons _ _ => cases r <;> cases e
    | nil =>
      cases r <;> cases e
      · rename_i h1 h2
        exact ⟨_, _, rfl, .inl (SqL.of (msk_some h1).2), fun l hl => k _ _ (same_new hl) (new_own hl h2)⟩
      · rename_i h1 h2
        exact ⟨_, _, rfl, .inr (SqT.of (msk_some h1).2), fun l hl => k _ _ (same_new hl) (new_own hl h2)⟩
/-- the ints of a list -/
def intsOf : List PyData → Option (List Int)
  | [] => some []
  | .int i :: ds => (intsOf ds).map (i :: ·)
  | _ => none
theorem ints_of {M : Hp} : ∀ {vs : List V} {ds : List PyData} {ns : List Int}, RpA M vs ds → intsOf ds = some ns → vs = ns.map V.int
  | _, _, _, .nil, e => by cases e; rfl
  | _, _, ns, .cons r t, e => by
    cases r <;> simp only [intsOf, reduceCtorEq] at e
    cases q : intsOf _ with
    | none => rw [q] at e; cases e
    | some ms =>
      rw [q] at e
      cases e
      rw [ints_of t q]
      rfl
def bSum : List PyData → Option DV
  | [.list ds] => (intsOf ds).map fun ns => .d (.int ns.sum)
  | _ => none
theorem rsSum {K : PySem.W.Frag} : RsD (rSum K) bSum := by
  intro t B H vs as z Q _ r e k
  cases r with
  | nil => cases e
  | cons r t =>
    cases t with
    | cons _ _ => cases r <;> cases e
    | nil =>
      cases r <;> simp only [bSum, reduceCtorEq] at e
      rename_i a xs ds h1 h2
      cases q : intsOf ds with
      | none => rw [q] at e; cases e
      | some ns =>
        rw [q] at e
        cases e
        refine ⟨_, ns, rfl, ?_, k _ H (fun _ _ h => h) (Rp.int _)⟩
        rw [← ints_of h2 q]
        exact SqL.of (msk_some h1).2
def b2I (g : Int → Int → Int) : List PyData → Option DV
  | [.int a, .int b] => some (.d (.int (g a b)))
  | _ => none
theorem rs2I {g : Int → Int → Int} : RsD (fun xs H Q => ∃ i j, xs = [.int i, .int j] ∧ Q (.int (g i j)) H) (b2I g) := by
  intro t B H vs as z Q _ r e k
  cases r with
  | nil => cases e
  | cons r t =>
    cases t with
    | nil => cases r <;> cases e
    | cons q t =>
      cases t with
      | cons _ _ => cases r <;> cases q <;> cases e
      | nil =>
        cases r <;> cases q <;> cases e
        exact ⟨_, _, rfl, k _ H (fun _ _ h => h) (Rp.int _)⟩
abbrev bMax2 := b2I fun i j => if j > i then j else i
abbrev bMin2 := b2I fun i j => if j < i then j else i
def bAbs : List PyData → Option DV
  | [.int a] => some (.d (.int (if a < 0 then -a else a)))
  | _ => none
theorem rsAbs : RsD (fun xs H Q => ∃ i, xs = [.int i] ∧ Q (.int (if i < 0 then -i else i)) H) bAbs := by
  intro t B H vs as z Q _ r e k
  cases r with
  | nil => cases e
  | cons r t =>
    cases t with
    | cons _ _ => cases r <;> cases e
    | nil =>
      cases r <;> cases e
      exact ⟨_, rfl, k _ H (fun _ _ h => h) (Rp.int _)⟩

/-! ### contracts -/
def plainOf : List DV → Option (List PyData)
  | [] => some []
  | .d x :: rs => (plainOf rs).map (x :: ·)
  | _ => none
theorem plainOf_R : ∀ {rs : List DV} {ds : List PyData}, plainOf rs = some ds → plainR rs ∧ rs.length = ds.length
  | [], _, e => by cases e; exact ⟨fun r h => (by cases h), rfl⟩
  | .d x :: rs, ds, e => by
    unfold plainOf at e
    cases q : plainOf rs with
    | none => rw [q] at e; cases e
    | some es =>
      rw [q] at e
      cases e
      obtain ⟨h1, h2⟩ := plainOf_R q
      refine ⟨fun r h => ?_, by show rs.length + 1 = es.length + 1; rw [h2]⟩
      rcases List.mem_cons.mp h with z | z
      · exact .inl ⟨x, z⟩
      · exact h1 r z
  | .un :: _, _, e => by cases e
  | .tape :: _, _, e => by cases e
  | .raw _ :: _, _, e => by cases e
  | .own _ :: _, _, e => by cases e
  | .dic _ :: _, _, e => by cases e
/-- a def of k data that tells what g tells -/
def mP (k : Nat) (g : List PyData → Option DV) : DM := fun rs n Q => ∃ ds, plainOf rs = some ds ∧ ds.length = k ∧ ∃ z, g ds = some z ∧ Q z n
theorem lP {k : Nat} {g : List PyData → Option DV} : ∀ rs n Q, mP k g rs n Q → plainR rs ∧ rs.length = k := fun rs n Q ⟨ds, e, h, _⟩ => ⟨(plainOf_R e).1, (plainOf_R e).2.trans h⟩
/-- a def of a tape and k data -/
def tapeOf : List DV → Option (List PyData)
  | .tape :: rs => plainOf rs
  | _ => none
def mT (k : Nat) (g : List PyData → Int → DQ → Prop) : DM := fun rs n Q => ∃ ds, tapeOf rs = some ds ∧ ds.length = k ∧ g ds n Q
theorem lT {k : Nat} {g : List PyData → Int → DQ → Prop} : ∀ rs n Q, mT k g rs n Q → plainR rs ∧ rs.length = k + 1 := fun rs n Q ⟨ds, e, h, _⟩ => by
  cases rs with
  | nil => cases e
  | cons r rs =>
    cases r <;> first | cases e; done | skip
    have e' : plainOf rs = some ds := e
    obtain ⟨h1, h2⟩ := plainOf_R e'
    refine ⟨fun r hr => ?_, by show rs.length + 1 = _; rw [h2, h]⟩
    rcases List.mem_cons.mp hr with z | z
    · exact .inr z
    · exact h1 r z
/-- a list, a dict of one's own is told -/
theorem psRetOwn {X : Cx} {i : Nat} {e : Expr} {pos : Pos} (h : PE X e (tVar i)) : PS X (.Return (some e) pos) (sD fun E ρ n => ∃ r, ρ[i]? = some r ∧ r.isOwn = true ∧ E.rt r n) := (ps_ret h).imp fun D σ H ⟨c, A, n, ρ, E, e, ⟨r, h1, h2, h3⟩, L⟩ => by
  have q := e.slot i _ h1
  have xt : ∀ a, A i = some a → Xt (msk (c.av A) H) (msk (fun b => c.B b ∨ b = a) H) := fun a ha b o _ e' => by
    obtain ⟨g1, g2⟩ := msk_some e'
    rw [msk_out]
    · exact g2
    · rintro (z | z)
      · exact g1 (.inl z)
      · exact g1 (.inr ⟨i, by rw [z]; exact ha⟩)
  cases r with
  | un => cases h2
  | tape => cases h2
  | raw v => cases h2
  | d x => cases h2
  | own ds =>
    obtain ⟨a, vs, g1, g2, g3, g4⟩ := q
    exact ⟨_, g2, L.rt _ _ n H h3 e.fr0 ⟨a, vs, rfl, e.new i a g1, g3, g4.ex (xt a g1)⟩⟩
  | dic kvs =>
    obtain ⟨a, vs, g1, g2, g3, g4⟩ := q
    exact ⟨_, g2, L.rt _ _ n H h3 e.fr0 ⟨a, vs, rfl, e.new i a g1, g3, g4.ex (xt a g1)⟩⟩
/-- a, b = e1, e2 -/
def dPar (i j : Nat) (g : DA) : DS := fun E ρ n => g ρ n fun rs n1 => ∃ x y, rs = [.d x, .d y] ∧ i < ρ.length ∧ j < ρ.length ∧ E.nx ((ρ.set i (.d x)).set j (.d y)) n1
theorem psPar {X : Cx} {i j : Nat} {g : DA} {st : Stmt} (h : PS X st (tPar i j (tDA g))) : PS X st (sD (dPar i j g)) := h.imp fun D σ H ⟨c, A, n, ρ, E, e, hf, L⟩ => by
  refine ⟨c, A, n, ρ, _, e, hf, fun vs rs n1 H1 ⟨x, y, er, hi, hj, h1⟩ f1 o1 => ?_⟩
  subst er
  cases o1 with
  | @cons v _ vs _ hv _ t =>
    cases t with
    | @cons w _ ws _ hw _ t =>
      cases t
      refine ⟨v, w, rfl, ?_⟩
      have e1 := (e.fr f1).pins (l := [(w, y)]) fun p hp => by rw [List.mem_singleton.mp hp]; exact hw
      have e2 := e1.putD (i := i) (v := v) (d := x) hv hi
      have hw2 := e2.pinned (p := (w, y)) (List.mem_singleton.mpr rfl)
      exact L.nx _ _ _ _ _ h1 (e2.unpin.putD (i := j) hw2 (by rw [List.length_set]; exact hj))
def dPar3 (i j l : Nat) (g : DA) : DS := fun E ρ n => g ρ n fun rs n1 => ∃ x y z, rs = [.d x, .d y, .d z] ∧ i < ρ.length ∧ j < ρ.length ∧ l < ρ.length ∧ E.nx (((ρ.set i (.d x)).set j (.d y)).set l (.d z)) n1
theorem psPar3 {X : Cx} {i j l : Nat} {g : DA} {st : Stmt} (h : PS X st (tPar3 i j l (tDA g))) : PS X st (sD (dPar3 i j l g)) := h.imp fun D σ H ⟨c, A, n, ρ, E, e, hf, L⟩ => by
  refine ⟨c, A, n, ρ, _, e, hf, fun vs rs n1 H1 ⟨x, y, z, er, hi, hj, hl, h1⟩ f1 o1 => ?_⟩
  subst er
  cases o1 with
  | @cons v _ vs _ hv _ t =>
    cases t with
    | @cons w _ ws _ hw _ t =>
      cases t with
      | @cons u _ us _ hu _ t =>
        cases t
        refine ⟨v, w, u, rfl, ?_⟩
        have e1 := (e.fr f1).pins (l := [(w, y), (u, z)]) fun p hp => by
          rcases List.mem_cons.mp hp with q | q
          · rw [q]; exact hw
          · rw [List.mem_singleton.mp q]; exact hu
        have e2 := e1.putD (i := i) (v := v) (d := x) hv hi
        have hw2 := e2.pinned (p := (w, y)) List.mem_cons_self
        have e3 := e2.putD (i := j) hw2 (by rw [List.length_set]; exact hj)
        have hu2 := e3.pinned (p := (u, z)) (List.mem_cons_of_mem _ List.mem_cons_self)
        exact L.nx _ _ _ _ _ h1 (e3.unpin.putD (i := l) hu2 (by rw [List.length_set, List.length_set]; exact hl))
end

/-! ### sorted(xs, key=lambda row: (row[3], row[7])), and (-row[3], row[7]) -/
def lamArgs (p : Pos) : Arguments := { posonlyargs := [], args := [{ arg := "row", annotation := none, pos := p }], vararg := none, kwonlyargs := [], kw_defaults := [], kwarg := none, defaults := [] }
def lamScope : Scope := { kind := .function, names := [("row", .local)], isGenerator := false, isCoroutine := false }
def rowAt (k : Int) (p1 p2 p3 : Pos) : Expr := .Subscript (.Name "row" p1) (.Constant (.int k) 0 p2) p3
def keyE (neg : Bool) (p1 p2 p3 p4 p5 p6 p7 p8 : Pos) : Expr := .Tuple [if neg then .UnaryOp .USub (rowAt 3 p1 p2 p3) p4 else rowAt 3 p1 p2 p3, rowAt 7 p5 p6 p7] 0 p8
section
variable {prog : Program} {w : World} {A : Around} {E : Value → Shared → Prop} {s : Shared}
theorem rowAt_ok {q : Str} {L f c' t : Addr} {m : Str → Option Value} {items : Array Value} {k : Int} {j : Nat} {x : Value} {p1 p2 p3 : Pos} {Q : Value → Shared → Prop} (hn : s.heap.Ns L m) (hm : m "row" = some (.ref t)) (ht : PyProof.Rows.IsTup s.heap t items) (h0 : 0 ≤ k) (h63 : k < 2 ^ 63)
    (hj : seqIndex? k items.size = some j) (hx : items[j]? = some x) (h : ∀ tk, Q x { s with toks := tk }) : wpAny (model prog w) A (eval (rowAt k p1 p2 p3) (PySem.W.envX q lamScope L f (.ref c') [])) Q E s := by
  refine PyProof.Rows.Subscript_ (wpAny_Name (wpAny_loadName_local rfl rfl hn hm ?_) (by decide))
  refine wpAny_Constant_int ?_
  exact PyProof.Rows.subscriptTail_builtinR (x := x) (PyProof.Rows.IsTup.typeIs ht) PySem.F.slot_tuple_getitem.lookup
    (PyProof.Rows.getItem_tuple (j := j) (Q := fun r s' => r = x ∧ Q r s') ht (by omega) h63 hj hx ⟨rfl, h _⟩) rfl
def key1 (neg : Bool) (i : Int) : Int := if neg = true then -i else i
theorem keyE_ok {neg : Bool} {q : Str} {L f c' t : Addr} {m : Str → Option Value} {items : Array Value} {i j : Int} {ti tj : Tok} {p1 p2 p3 p4 p5 p6 p7 p8 : Pos} {Q : Value → Shared → Prop} (hn : s.heap.Ns L m) (hm : m "row" = some (.ref t)) (ht : PyProof.Rows.IsTup s.heap t items) (hz : items.size = 8)
    (h3 : items[3]? = some (.int i ti)) (h7 : items[7]? = some (.int j tj))
    (h : ∀ tk u, Q (.ref s.heap.objs.size) { s with heap := s.heap.push { cls := .type "tuple", data := .seq #[.int (key1 neg i) u, .int j tj] }, toks := tk }) :
    wpAny (model prog w) A (eval (keyE neg p1 p2 p3 p4 p5 p6 p7 p8) (PySem.W.envX q lamScope L f (.ref c') [])) Q E s := by
  refine wpAny_Tuple_spliced ?_
  have last : ∀ {tk : Nat} {R : List Value → Shared → Prop}, (∀ tk', R [.int j tj] { s with toks := tk' }) →
      wpAny (model prog w) A (spliced (backTo p8 (starEach [rowAt 7 p5 p6 p7] (PySem.W.envX q lamScope L f (.ref c') [])))) R E { s with toks := tk } := fun {tk R} hR => by
    show wpAny _ _ (spliced ((false, eval (rowAt 7 p5 p6 p7) (PySem.W.envX q lamScope L f (.ref c') [])) :: backTo p8 (starEach [] (PySem.W.envX q lamScope L f (.ref c') [])))) _ _ _
    refine Calls.spliced_cons (rowAt_ok (s := { s with toks := tk }) (j := 7) hn hm ht (by decide) (by decide) (by rw [hz]; rfl) h7 fun tk2 => ?_)
    exact Calls.spliced_nil (hR _)
  cases neg with
  | true =>
    show wpAny _ _ (spliced ((false, eval (.UnaryOp .USub (rowAt 3 p1 p2 p3) p4) (PySem.W.envX q lamScope L f (.ref c') [])) :: backTo p8 (starEach [rowAt 7 p5 p6 p7] (PySem.W.envX q lamScope L f (.ref c') [])))) _ _ _
    refine Calls.spliced_cons (PyProof.Rows.UnaryOp_ (rowAt_ok (j := 3) hn hm ht (by decide) (by decide) (by rw [hz]; rfl) h3 fun tk1 => PyProof.Rows.neg_int ?_))
    exact last fun tk' => ⟨by show 2 ≤ sizeLine; decide, h _ _⟩
  | false =>
    show wpAny _ _ (spliced ((false, eval (rowAt 3 p1 p2 p3) (PySem.W.envX q lamScope L f (.ref c') [])) :: backTo p8 (starEach [rowAt 7 p5 p6 p7] (PySem.W.envX q lamScope L f (.ref c') [])))) _ _ _
    refine Calls.spliced_cons (rowAt_ok (j := 3) hn hm ht (by decide) (by decide) (by rw [hz]; rfl) h3 fun tk1 => ?_)
    exact last fun tk' => ⟨by show 2 ≤ sizeLine; decide, h _ _⟩
/-- the lambda, called with a row -/
theorem lam_key {neg : Bool} {q : Str} {f c' t : Addr} {pm ctv : Value} {items : Array Value} {i j : Int} {ti tj : Tok} {p0 p1 p2 p3 p4 p5 p6 p7 p8 : Pos} (hd : A.depth < recursionLimit) (hlim : s.heap.NoLimit)
    (hf : s.heap.get? f = some (PySem.W.kla_obj "<lambda>" q (lamArgs p0) (keyE neg p1 p2 p3 p4 p5 p6 p7 p8) lamScope [] pm c' ctv)) (hrec : s.heap.CodeRec (.ref c') q) (ht : PyProof.Rows.IsTup s.heap t items) (hz : items.size = 8)
    (h3 : items[3]? = some (.int i ti)) (h7 : items[7]? = some (.int j tj)) :
    wpAny (model prog w) A (call (.ref f) [.ref t]) (PySem.W.KeyPure (.tuple [.int (key1 neg i), .int j]) s) (fun _ _ => False) s := by
  refine wpAny_call (PySem.W.kla_callFunE hd hf rfl rfl rfl rfl hrec ?_)
  have hb : bindArgs (PySem.W.kla_fn "<lambda>" q (lamArgs p0) (keyE neg p1 p2 p3 p4 p5 p6 p7 p8) lamScope [] pm (.ref c') ctv) ⟨[.ref t], []⟩ = pure [(("row" : Str), Value.ref t)] := by first | rfl | with_unfolding_all rfl | kernel_rfl
  rw [hb]
  refine wpAny_pure (wpAny_newFunctionEnv (scope := lamScope) (by decide +kernel) (fun y hy => by rw [List.mem_singleton.mp hy]; rfl) (fun h₁ hns hsb => ⟨hlim.fresh _ hsb, ?_⟩) rfl)
  show codeAny _ _ (.expr (keyE neg p1 p2 p3 p4 p5 p6 p7 p8) (PySem.W.envX q lamScope s.heap.objs.size f (.ref c') [])) _ _
  have kp : ∀ b o, s.heap.get? b = some o → h₁.get? b = some o := fun b o e => hsb.extBut b o (Nat.ne_of_lt (Heap.lt_size e)) (Heap.get?_push_of_some _ e)
  refine PySem.W.kla_codeExpr ?_
  refine keyE_ok (items := items) (i := i) (j := j) hns rfl (ht.keeps kp) hz h3 h7 fun tk u => ?_
  have kp2 : ∀ b o, s.heap.get? b = some o → (h₁.push { cls := .type "tuple", data := .seq #[.int (key1 neg i) u, .int j tj] } : Heap).get? b = some o := fun b o e => Heap.get?_push_of_some _ (kp b o e)
  refine ⟨_, _, rfl, kp2, ?_⟩
  exact Reads.tuple (Heap.get?_push_size _ rfl) rfl rfl (.cons (.int _ _) (.cons (.int _ _) .nil))
end
def rowLe (neg : Bool) (kk : V → Int × Int) : V → V → Bool := fun p q => decide (key1 neg (kk p).1 < key1 neg (kk q).1 ∨ (key1 neg (kk p).1 = key1 neg (kk q).1 ∧ (kk p).2 ≤ (kk q).2))
theorem extN_L {K : PySem.W.Frag} {H H' : Hp} {a : Addr} {xs : List V} (e : LamX.ExtN H H') (h : SqL K H a xs) : SqL K H' a xs := by
  rcases h with (h | ⟨o, h⟩) | h
  · exact .inl (.inl (e _ _ h fun ps z => by cases z))
  · exact .inl (.inr ⟨o, e _ _ h fun ps z => by cases z⟩)
  · exact .inr h
theorem extN_T {K : PySem.W.Frag} {H H' : Hp} {a : Addr} {xs : List V} (e : LamX.ExtN H H') (h : SqT K H a xs) : SqT K H' a xs := by
  rcases h with (h | ⟨o, h⟩) | h
  · exact .inl (.inl (e _ _ h fun ps z => by cases z))
  · exact .inl (.inr ⟨o, e _ _ h fun ps z => by cases z⟩)
  · exact .inr h
theorem each_of : ∀ {xs : List V} {us : List Value}, Vals xs us → PySem.W.EachIs (fun v x => RelV x v) us xs
  | _, _, .nil => .nil
  | _, _, .cons r t => .cons r (each_of t)
theorem vals_of : ∀ {us : List Value} {xs : List V}, PySem.W.EachIs (fun v x => RelV x v) us xs → Vals xs us
  | _, _, .nil => .nil
  | _, _, .cons r t => .cons r (vals_of t)
/-- what a row's lambda asks of the rows, what is told -/
def tSortLam (K : PySem.W.Frag) (T : List (Addr × Str)) (neg : Bool) (te : TE) : TE := fun σ H Q => te σ H fun x H1 => ∃ (a : Addr) (xs : List V) (kk : V → Int × Int), x = .ref a ∧ SqL K H1 a xs ∧
  (∀ y ∈ xs, ∃ t ws, y = .ref t ∧ SqT K H1 t ws ∧ ws.length = 8 ∧ ws[3]? = some (.int (kk y).1) ∧ ws[7]? = some (.int (kk y).2)) ∧ LamX.Tabs T H1 ∧
  ∀ H2 p, LamX.ExtN H1 H2 → LamX.Tabs T H2 → H2 p = none → Q (.ref p) (upd H2 p (.lst (xs.mergeSort (rowLe neg kk))))
theorem pe_sortLam {X : Cx} {T : List (Addr × Str)} {c P : Addr} {neg : Bool} {e : Expr} {te : TE} {p pos lpos kpos p0 p1 p2 p3 p4 p5 p6 p7 p8 : Pos} (hg : Gl X "sorted") (hm : X.mg "sorted" = none) (TB : LamX.TabB X.base X.mg c P) (hcode : X.env.code = .ref c)
    (hmT : (P, X.env.qual ++ "<lambda>") ∈ T) (hu : ∀ p ∈ T, p.1 = P → p.2 = X.env.qual ++ "<lambda>") (hr : Room 1 X.A) (he : PE X e te)
    (hst : backTo pos (starEach [e] X.env) = (false, eval e X.env) :: backTo pos (starEach [] X.env) := by rfl) (hpl : (backTo pos (starEach [e] X.env)).any (·.1) = false := by rfl) :
    PE X (.Call (.Name "sorted" p) [e] [⟨some "key", .Lambda (lamArgs p0) (keyE neg p1 p2 p3 p4 p5 p6 p7 p8) lamScope lpos, kpos⟩] pos) (tSortLam X.K T neg te) := by
  refine ⟨fun pins s σ H Q I h => ?_⟩
  refine wpAny_Call_Name_kw (ld_blt I hg hm (by decide +kernel : bootBuiltins "sorted" = some (.builtin "sorted")) ?_ (by decide) (by decide))
  refine PyProof.Rows.callWith_kw (kws := [⟨some "key", .Lambda (lamArgs p0) (keyE neg p1 p2 p3 p4 p5 p6 p7 p8) lamScope lpos, kpos⟩]) ?_ hst hpl rfl rfl
  rw [hst]
  refine Calls.spliced_cons (thn (he.run pins s σ H _ I h) fun u s1 ⟨x, H1, I1, r1, q1⟩ => Calls.spliced_nil ?_)
  obtain ⟨a, xs, kk, rfl, hs, hk, hT, q⟩ := q1
  obtain rfl : u = Value.ref a := r1
  show wpAny _ _ (evalAll ((do let v ← eval (.Lambda (lamArgs p0) (keyE neg p1 p2 p3 p4 p5 p6 p7 p8) lamScope lpos) X.env; standAt pos; pure v) :: [])) _ _ s1
  refine wpAny_evalAll_cons (wpAny_bind (LamX.lam_make2 I1 TB hcode hmT hu hT rfl (fun y hy e => by rw [List.mem_singleton.mp hy] at e; cases e) fun f c' pm ctv H2 s2 I2 eN T2 hf hfn hfr hco => wpAny_bind (wpAny_standAt (wpAny_pure ?_))))
  refine wpAny_evalAll_nil ?_
  show wpAny _ _ (call (.builtin "sorted") [.ref a] [("key", .ref f)]) _ _ s2
  obtain ⟨its, rv, hl, hz⟩ := I2.list (extN_L eN hs)
  have hun := hr.un
  have hdp := hr.dp
  have hrec : s2.heap.CodeRec (.ref c') (X.env.qual ++ "<lambda>") := by
    obtain ⟨⟨oc, vs, t, h1, h2, h3⟩, _⟩ := I2.hok c' _ hco
    exact ⟨c', oc, vs, t, rfl, h1, h2, h3⟩
  refine PySem.W.sorted_key_data (β := V) (R := fun v x => RelV x v) (b := false) (bs := xs) (vs := its) (fun y => .tuple [.int (key1 neg (kk y).1), .int (kk y).2]) hl.isList (each_of rv) ?_ ?_ hz ?_ (PyProof.Rows.ksk_s1 _ _) (fun _ => PyProof.Rows.ksk_l1 _ _) (fun x => PyProof.Rows.ksk_t1 f x) ?_ ?_
  · intro d hd d' hd'
    obtain ⟨y, _, rfl⟩ := List.mem_map.mp hd
    obtain ⟨y', _, rfl⟩ := List.mem_map.mp hd'
    rfl
  · refine .inl fun d hd => ?_
    obtain ⟨y, _, rfl⟩ := List.mem_map.mp hd
    exact ⟨_, _, rfl⟩
  · intro y hy
    have e : (PyData.tuple [.int (key1 neg (kk y).1), .int (kk y).2]).depth ≤ 10 := by
      simp [PyData.depth, PyData.depthAll]
    omega
  · intro v y hv hy h tk keep
    obtain ⟨t, ws, rfl, ht, hlen, h3, h7⟩ := hk y hy
    obtain rfl : v = Value.ref t := hv
    obtain ⟨its2, rv2, pl, hz2⟩ := I2.tuple (extN_T eN ht)
    obtain ⟨u3, e3, ru3⟩ := rv2.get h3
    obtain ⟨u7, e7, ru7⟩ := rv2.get h7
    obtain ⟨t3, rfl⟩ := ru3
    obtain ⟨t7, rfl⟩ := ru7
    exact lam_key (s := { s2 with heap := h, toks := tk }) (items := its2.toArray) (by show X.A.depth < _; omega) (I2.nolimit.keeps keep) (keep _ _ hf) (hrec.keeps keep) (pl.keeps keep) (by rw [List.size_toArray, ← rv2.length, hlen]) (by simpa using e3) (by simpa using e7)
  · intro out cc h' tk keep fresh hget hlen each
    have e2 : PySem.W.dataLe false (fun y : V => PyData.tuple [.int (key1 neg (kk y).1), .int (kk y).2]) = rowLe neg kk := PySem.W.dataLe_ii (fun y => key1 neg (kk y).1) (fun y => (kk y).2)
    rw [e2] at each
    refine ⟨.ref _, upd H2 (s2.heap.objs.size + 1) (.lst (xs.mergeSort (rowLe neg kk))), I2.laid (t' := tk) keep (Nat.le_succ _) ⟨?_, out, cc, vals_of each, hget⟩, rfl, q H2 _ eN T2 (I2.hok.fresh (Nat.le_succ _))⟩
    rw [List.length_mergeSort]
    exact hz

/-! ### data readings: slices, tuples joined, sorting, calls by keywords -/
section
variable [Fam] [Tabz]
theorem _root_.L2.Room.units65 {k : Nat} {A : Around} (r : Room k A) : A.units + 65 < cLine := by have := r.un; omega
def truD : PyData → Option Bool
  | .none => some false
  | .bool b => some b
  | .int i => some (i != 0)
  | .list ds => some (!ds.isEmpty)
  | .tuple ds => some (!ds.isEmpty)
  | _ => none
def dTru (f : DF) : DT := fun ρ n Q => f ρ n fun r n1 => ∃ a, r.dat = some a ∧ ∃ b, truD a = some b ∧ Q b n1
theorem RpA.empty {M : Hp} {vs : List V} {ds : List PyData} (r : RpA M vs ds) : vs.isEmpty = ds.isEmpty := by
  cases r <;> rfl
theorem ptTru {X : Cx} {a : Expr} {f : DF} (ha : PE X a (tD f)) (he : ∀ whole, isTrue a X.env whole = (do let v ← whole; standAt a.pos; holding [v] (truthy v))) : PT X a (tDT (dTru f)) := (pt_truth ha he).imp fun σ H Q ⟨c, A, n, ρ, Q', E, hf, k⟩ => by
  refine ⟨c, A, n, ρ, _, E, hf, fun v r n1 H1 ⟨a, ea, b, eb, hq⟩ f1 o1 => ⟨b, ?_, k b n1 H1 hq f1⟩⟩
  have rp := o1.dat E ea
  cases rp with
  | non => cases eb; exact rfl
  | bl b => cases eb; exact rfl
  | int i => cases eb; exact rfl
  | str x => cases eb
  | lst h1 h2 =>
    cases eb
    exact .inl ⟨_, SqL.of (msk_some h1).2, by rw [h2.empty]⟩
  | tup h1 h2 =>
    cases eb
    exact .inr (.inl ⟨_, SqT.of (msk_some h1).2, by rw [h2.empty]⟩)
/-- what is told, as data -/
theorem pdCold {X : Cx} {e : Expr} {f : DF} (h : PE X e (tD f)) : PE X e (tD fun ρ n Q => f ρ n fun r n1 => Q r.cold n1) := h.imp fun σ H Q ⟨c, A, n, ρ, Q', E, hf, k⟩ => ⟨c, A, n, ρ, _, E, hf, fun v r n1 H1 hq f1 o1 => k v _ n1 H1 hq f1 (o1.cold E)⟩
/-- two comparisons -/
def dChain (o1 o2 : PyData → PyData → Option DV) (f g h : DF) : DF := fun ρ n Q => f ρ n fun x n1 => g ρ n1 fun y n2 => ∃ a, x.dat = some a ∧ ∃ b, y.dat = some b ∧ ∃ k, o1 a b = some (.d (.bool k)) ∧ if k = true then h ρ n2 fun w n3 => ∃ c, w.dat = some c ∧ ∃ z, o2 b c = some z ∧ Q z n3 else Q (.d (.bool false)) n2
theorem chain_le {r r' : R2} {op op' : PyData → PyData → Option DV} {f g h : DF} (h1 : R2D r op) (h2 : R2D r' op') (σ : L2.St) (H : Hp) (Q : VK) (q : tD (dChain op op' f g h) σ H Q) : tChain r r' (tD f) (tD g) (tD h) σ H Q := by
  obtain ⟨c, A, n, ρ, Q', E, hf, k⟩ := q
  refine ⟨c, A, n, ρ, _, E, hf, fun v x n1 H1 hg f1 o1 => ⟨c, A, n1, ρ, _, E.fr f1, hg, fun w y n2 H2 hz f2 o2 => ?_⟩⟩
  obtain ⟨a, ea, b, eb, kb, ek, hq⟩ := hz
  have E2 := (E.fr f1).fr f2
  have ra := (o1.later E f1 f2).dat E ea
  have rb := o2.dat (E.fr f1) eb
  refine h1 c.t (c.av A) H2 v w a b _ _ (fun b hb => (E2.there hb).imp fun o h => h.1) ra rb ek fun u H3 s o => ?_
  cases o
  refine ⟨kb, rfl, ?_⟩
  have f3 : Fr c n2 H2 H3 := Fr.same E2.g s
  cases kb with
  | false => exact k _ _ n2 H3 hq ((f1.trans f2).trans f3) (Rp.bl false)
  | true =>
    refine ⟨c, A, n2, ρ, _, E2.fr f3, hq, fun w' r n3 H4 ⟨cc, ec, z, ez, h5⟩ f4 o4 => ?_⟩
    have E4 := (E2.fr f3).fr f4
    refine h2 c.t (c.av A) H4 w w' b cc z Q (fun b hb => (E4.there hb).imp fun o h => h.1) ((rb.ex f3.msk).ex f4.msk) (o4.dat (E2.fr f3) ec) ez fun u H5 s5 o5 => ?_
    have f5 : Fr c n3 H4 H5 := Fr.same E4.g s5
    exact k u z n3 H5 h5 (((f1.trans f2).trans f3).trans (f4.trans f5)) (VOk.mono E (((f1.trans f2).trans f3).trans f4) o5)
theorem pdChain {X : Cx} {o o' : CmpOp} {r r' : R2} {op op' : PyData → PyData → Option DV} {a b e : Expr} {f g h : DF} {pos : Pos} (h1 : R2D r op) (h2 : R2D r' op') (ho : OpR X (compareOp o) r) (ho' : OpR X (compareOp o') r') (ha : PE X a (tD f)) (hb : PE X b (tD g)) (hc : PE X e (tD h)) (hm : lastMarks [o, o'] [b, e] = false := by with_unfolding_all rfl) :
    PE X (.Compare a [o, o'] [b, e] pos) (tD (dChain op op' f g h)) := (pe_chain ho ho' ha hb hc hm).imp (chain_le h1 h2)
theorem ptChain {X : Cx} {o o' : CmpOp} {r r' : R2} {op op' : PyData → PyData → Option DV} {a b e : Expr} {f g h : DF} {pos : Pos} (h1 : R2D r op) (h2 : R2D r' op') (ho : OpR X (compareOp o) r) (ho' : OpR X (compareOp o') r') (ha : PE X a (tD f)) (hb : PE X b (tD g)) (hc : PE X e (tD h)) (hm : lastMarks [o, o'] [b, e] = false := by with_unfolding_all rfl) :
    PT X (.Compare a [o, o'] [b, e] pos) (tDT (dTest (dChain op op' f g h))) := (pt_chain ho ho' ha hb hc hm).imp fun σ H Q q => test_le (chain_le h1 h2) σ H Q q
/-- slices -/
abbrev DO := List DV → Int → (Option Int → Int → Prop) → Prop
def tDO (f : DO) : TO := fun σ H Q => ∃ (c : EC) (A : Nat → Option Addr) (n : Int) (ρ : List DV) (Q' : Option Int → Int → Prop), EnvA c A n σ H ρ ∧ f ρ n Q' ∧ ∀ o n' H', Q' o n' → Fr c n' H H' → Q o H'
theorem _root_.L2.PO.imp {X : Cx} {e : Option Expr} {t t' : TO} (h : PO X e t) (i : ∀ σ H Q, t' σ H Q → t σ H Q) : PO X e t' := ⟨fun pins s σ H Q I q => h.run pins s σ H Q I (i σ H Q q)⟩
def dONone : DO := fun _ n Q => Q none n
def dOSome (f : DF) : DO := fun ρ n Q => f ρ n fun r n1 => ∃ i, r = .d (.int i) ∧ Q (some i) n1
theorem poNone {X : Cx} : PO X none (tDO dONone) := po_none.imp fun σ H Q ⟨c, A, n, ρ, Q', E, hf, k⟩ => k none n H hf (.refl E.g)
theorem poSome {X : Cx} {e : Expr} {f : DF} (h : PE X e (tD f)) : PO X (some e) (tDO (dOSome f)) := (po_some h).imp fun σ H Q ⟨c, A, n, ρ, Q', E, hf, k⟩ =>
  ⟨c, A, n, ρ, _, E, hf, fun v r n1 H1 ⟨i, e, hq⟩ f1 o1 => by
    subst e
    cases o1
    exact ⟨i, rfl, k _ n1 H1 hq f1⟩⟩
def cutD (ds : List PyData) (lo hi : Option Int) : List PyData := (ds.drop (HT.sIx ds.length 0 lo)).take (HT.sIx ds.length ds.length hi - HT.sIx ds.length 0 lo)
theorem RpA.cut {M : Hp} {vs : List V} {ds : List PyData} (r : RpA M vs ds) (lo hi : Option Int) : RpA M (cutV vs lo hi) (cutD ds lo hi) := by
  unfold cutV cutD
  rw [r.length]
  exact (r.drop _).take _
def SlD (r : V → Option Int → Option Int → Hp → VK → Prop) (op : PyData → Option Int → Option Int → Option DV) : Prop := ∀ (t : V) (B : Addr → Prop) (H : Hp) (v : V) (a : PyData) (lo hi : Option Int) (z : DV) (Q : VK), (∀ b, B b → ∃ o, H b = some o) → Rp (msk B H) v a → op a lo hi = some z →
  (∀ u H', (∀ p o, H p = some o → H' p = some o) → VOk t B H u H' z → Q u H') → r v lo hi H Q
def dSl (op : PyData → Option Int → Option Int → Option DV) (f : DF) (g h : DO) : DF := fun ρ n Q => f ρ n fun x n1 => g ρ n1 fun lo n2 => h ρ n2 fun hi n3 => ∃ a, x.dat = some a ∧ ∃ z, op a lo hi = some z ∧ Q z n3
theorem pdSl {X : Cx} {r : V → Option Int → Option Int → Hp → VK → Prop} {op : PyData → Option Int → Option Int → Option DV} {e : Expr} {lo hi : Option Expr} {f : DF} {g h : DO} {p2 pos : Pos} (hd : SlD r op) (hr : SlR X r) (he : PE X e (tD f)) (hl : PO X lo (tDO g)) (hu : PO X hi (tDO h)) : PE X (.Subscript e (.Slice lo hi none p2) pos) (tD (dSl op f g h)) := (pe_slice hr he hl hu).imp fun σ H Q ⟨c, A, n, ρ, Q', E, hf, k⟩ => by
  refine ⟨c, A, n, ρ, _, E, hf, fun v x n1 H1 h1 f1 o1 => ⟨c, A, n1, ρ, _, E.fr f1, h1, fun lo n2 H2 h2 f2 => ⟨c, A, n2, ρ, _, (E.fr f1).fr f2, h2, fun hi n3 H3 ⟨a, ea, z, ez, h3⟩ f3 => ?_⟩⟩⟩
  have E3 := ((E.fr f1).fr f2).fr f3
  refine hd c.t (c.av A) H3 v a lo hi z Q (fun b hb => (E3.there hb).imp fun o h => h.1) (((o1.later E f1 f2).later E (f1.trans f2) f3).dat E ea) ez fun u H' s o => ?_
  exact k u z n3 H' h3 (((f1.trans f2).trans f3).trans (Fr.same E3.g s)) (VOk.mono E ((f1.trans f2).trans f3) o)
def opSlL : PyData → Option Int → Option Int → Option DV
  | .list ds, lo, hi => some (.own (cutD ds lo hi))
  | _, _, _ => none
def opSlT : PyData → Option Int → Option Int → Option DV
  | .tuple ds, lo, hi => some (.d (.tuple (cutD ds lo hi)))
  | _, _, _ => none
theorem slLD {K : PySem.W.Frag} : SlD (rSlL K) opSlL := by
  intro t B H v a lo hi z Q _ ra e k
  cases ra <;> cases e
  rename_i h1 h2
  exact ⟨_, _, rfl, SqL.of (msk_some h1).2, fun p hp => k _ _ (same_new hp) (new_own hp (h2.cut lo hi))⟩
theorem slTD {K : PySem.W.Frag} : SlD (rSlA K) opSlT := by
  intro t B H v a lo hi z Q hB ra e k
  cases ra with
  | @tup a xs ds h1 h2 =>
    cases e
    refine ⟨_, _, rfl, SqT.of (msk_some h1).2, fun hw => k _ H (fun _ _ h => h) ?_, fun _ p hp => k _ _ (same_new hp) (new_tup hB hp (h2.cut lo hi))⟩
    rw [h2.length] at hw
    have e : cutD ds lo hi = ds := by
      unfold cutD
      rw [hw.1, hw.2, List.drop_zero, Nat.sub_zero, List.take_length]
    rw [e]
    exact Rp.tup h1 h2
  | _ => cases e
def opCatT : PyData → PyData → Option DV
  | .tuple a, .tuple b => if a.length + b.length ≤ 200000 then some (.d (.tuple (a ++ b))) else none
  | _, _ => none
theorem r2CatT {K : PySem.W.Frag} : R2D (rCatA K) opCatT := by
  intro t B H v w a b z Q hB ra rb e k
  cases ra <;> cases rb <;> simp only [opCatT, reduceCtorEq] at e
  rename_i h1 h2 _ _ _ h3 h4
  split at e
  · rename_i hz
    cases e
    refine ⟨_, _, _, _, rfl, rfl, SqT.of (msk_some h1).2, SqT.of (msk_some h3).2, ?_, fun e => k _ H (fun _ _ h => h) ?_, fun _ e => k _ H (fun _ _ h => h) ?_, fun _ _ p hp => k _ _ (same_new hp) (new_tup hB hp (h2.app h4))⟩
    · rw [h2.length, h4.length]
      exact Nat.le_trans hz (by decide)
    · subst e
      cases h2
      exact Rp.tup h3 h4
    · subst e
      cases h4
      rw [List.append_nil]
      exact Rp.tup h1 h2
  · cases e
/-- x in (..) of data -/
def opInT (neg : Bool) : PyData → PyData → Option DV := fun a b => match b with
  | .tuple ds => if SeqAt.shaped a = true ∧ SeqAt.shaped (.tuple ds) = true then some (.d (.bool (if neg then !ds.any fun z => PyData.eqv z a else ds.any fun z => PyData.eqv z a))) else none
  | _ => none
def rInT (K : PySem.W.Frag) : R2 := fun x y H Q => ∃ d ds, Dp K H x d ∧ Dp K H y (.tuple ds) ∧ SeqAt.shaped d = true ∧ SeqAt.shaped (.tuple ds) = true ∧ Q (.bl (ds.any fun z => PyData.eqv z d)) H
theorem op_inT {X : Cx} (hu : X.A.units + 65 < cLine) : OpR X (PySem.compareOp .In) (rInT X.K) := by
  intro pins s σ H x y v u Q I rx ry h
  obtain ⟨d, ds, hd, he, sd, se, q⟩ := h
  obtain ⟨as, r1⟩ := Dp.reads I d x v hd rx
  obtain ⟨bs, r2⟩ := Dp.reads I (.tuple ds) y u he ry
  exact SeqAt.in_tuple_reads r2 r1 (SeqAt.canLay_of_shaped se) (SeqAt.canLay_of_shaped sd) (PyProof.Rows.room_in_shaped sd hu) ⟨.bl _, H, I, rfl, q⟩
theorem r2InT {K : PySem.W.Frag} : R2D (rInT K) (opInT false) := by
  intro t B H v w a b z Q _ ra rb e k
  cases rb <;> simp only [opInT, reduceCtorEq] at e
  split at e
  · rename_i h1 h2 h
    cases e
    exact ⟨a, _, up_msk ra, (Rp.tup h1 h2 |> fun r => up_msk r), h.1, h.2, k _ H (fun _ _ h => h) (Rp.bl _)⟩
  · cases e
/-- max, min of a list of ints -/
def maxI : List Int → Option Int
  | [] => none
  | i :: is => some (is.foldl max i)
def minI : List Int → Option Int
  | [] => none
  | i :: is => some (is.foldl min i)
theorem foldl_max (is : List Int) : ∀ i : Int, (is.foldl max i ∈ i :: is) ∧ ∀ j ∈ i :: is, j ≤ is.foldl max i := by
  induction is with
  | nil => intro i; exact ⟨List.mem_cons_self, fun j hj => by rw [List.mem_singleton.mp hj]; exact Int.le_refl _⟩
  | cons a is ih =>
    intro i
    obtain ⟨h1, h2⟩ := ih (max i a)
    refine ⟨?_, fun j hj => ?_⟩
    · rcases List.mem_cons.mp h1 with e | e
      · show is.foldl max (max i a) ∈ _
        rw [e]
        by_cases h : i ≤ a
        · rw [show max i a = a by omega]; exact List.mem_cons_of_mem _ List.mem_cons_self
        · rw [show max i a = i by omega]; exact List.mem_cons_self
      · exact List.mem_cons_of_mem _ (List.mem_cons_of_mem _ e)
    · have hm := h2 (max i a) List.mem_cons_self
      show j ≤ is.foldl max (max i a)
      rcases List.mem_cons.mp hj with e | e
      · omega
      · rcases List.mem_cons.mp e with e | e
        · omega
        · exact h2 j (List.mem_cons_of_mem _ e)
theorem foldl_min (is : List Int) : ∀ i : Int, (is.foldl min i ∈ i :: is) ∧ ∀ j ∈ i :: is, is.foldl min i ≤ j := by
  induction is with
  | nil => intro i; exact ⟨List.mem_cons_self, fun j hj => by rw [List.mem_singleton.mp hj]; exact Int.le_refl _⟩
  | cons a is ih =>
    intro i
    obtain ⟨h1, h2⟩ := ih (min i a)
    refine ⟨?_, fun j hj => ?_⟩
    · rcases List.mem_cons.mp h1 with e | e
      · show is.foldl min (min i a) ∈ _
        rw [e]
        by_cases h : i ≤ a
        · rw [show min i a = i by omega]; exact List.mem_cons_self
        · rw [show min i a = a by omega]; exact List.mem_cons_of_mem _ List.mem_cons_self
      · exact List.mem_cons_of_mem _ (List.mem_cons_of_mem _ e)
    · have hm := h2 (min i a) List.mem_cons_self
      show is.foldl min (min i a) ≤ j
      rcases List.mem_cons.mp hj with e | e
      · omega
      · rcases List.mem_cons.mp e with e | e
        · omega
        · exact h2 j (List.mem_cons_of_mem _ e)
def bMaxL : List PyData → Option DV
  | [.list ds] => (intsOf ds).bind fun ns => (maxI ns).map fun m => .d (.int m)
  | _ => none
def bMinL : List PyData → Option DV
  | [.list ds] => (intsOf ds).bind fun ns => (minI ns).map fun m => .d (.int m)
  | _ => none
theorem rsMax {K : PySem.W.Frag} : RsD (rMax K) bMaxL := by
  intro t B H vs as z Q _ r e k
  cases r with
  | nil => cases e
  | cons r t =>
    cases t with
    | cons _ _ => cases r <;> cases e
    | nil =>
      cases r <;> simp only [bMaxL, reduceCtorEq] at e
      rename_i a xs ds h1 h2
      cases q : intsOf ds with
      | none => rw [q] at e; cases e
      | some ns =>
        rw [q] at e
        cases ns with
        | nil => cases e
        | cons i is =>
          cases e
          obtain ⟨m1, m2⟩ := foldl_max is i
          refine ⟨_, i :: is, rfl, ?_, Nat.succ_pos _, fun m hm hm2 => ?_⟩
          · rw [← ints_of h2 q]
            exact SqL.of (msk_some h1).2
          · have : m = is.foldl max i := Int.le_antisymm (m2 m hm) (hm2 _ m1)
            rw [this]
            exact k _ H (fun _ _ h => h) (Rp.int _)
theorem rsMin {K : PySem.W.Frag} : RsD (rMin K) bMinL := by
  intro t B H vs as z Q _ r e k
  cases r with
  | nil => cases e
  | cons r t =>
    cases t with
    | cons _ _ => cases r <;> cases e
    | nil =>
      cases r <;> simp only [bMinL, reduceCtorEq] at e
      rename_i a xs ds h1 h2
      cases q : intsOf ds with
      | none => rw [q] at e; cases e
      | some ns =>
        rw [q] at e
        cases ns with
        | nil => cases e
        | cons i is =>
          cases e
          obtain ⟨m1, m2⟩ := foldl_min is i
          refine ⟨_, i :: is, rfl, ?_, Nat.succ_pos _, fun m hm hm2 => ?_⟩
          · rw [← ints_of h2 q]
            exact SqL.of (msk_some h1).2
          · have : m = is.foldl min i := Int.le_antisymm (hm2 _ m1) (m2 m hm)
            rw [this]
            exact k _ H (fun _ _ h => h) (Rp.int _)
/-- one value is one thing -/
theorem Rp.one {M : Hp} {v : V} {d : PyData} (r : Rp M v d) : ∀ e, Rp M v e → d = e := by
  refine Rp.rec (motive_1 := fun v d _ => ∀ e, Rp M v e → d = e) (motive_2 := fun vs ds _ => ∀ es, RpA M vs es → ds = es) ?_ ?_ ?_ ?_ ?_ ?_ ?_ ?_ r
  · intro e h; cases h; rfl
  · intro b e h; cases h; rfl
  · intro i e h; cases h; rfl
  · intro x e h; cases h; rfl
  · intro a xs ds h _ ih e he
    cases he with
    | lst h' r' =>
      rw [h] at h'
      cases h'
      rw [ih _ r']
    | tup h' r' =>
      rw [h] at h'
      cases h'
  · intro a xs ds h _ ih e he
    cases he with
    | lst h' r' =>
      rw [h] at h'
      cases h'
    | tup h' r' =>
      rw [h] at h'
      cases h'
      rw [ih _ r']
  · intro es h; cases h; rfl
  · intro v vs d ds _ _ h1 h2 es h
    cases h with
    | cons a b => rw [h1 _ a, h2 _ b]
noncomputable def datOf (M : Hp) (v : V) : PyData := open Classical in if h : ∃ d, Rp M v d then h.choose else .none
theorem datOf_eq {M : Hp} {v : V} {d : PyData} (r : Rp M v d) : datOf M v = d := by
  have h : ∃ d, Rp M v d := ⟨d, r⟩
  unfold datOf
  rw [dif_pos h]
  exact h.choose_spec.one _ r
theorem RpA.datOf {M : Hp} : ∀ {vs : List V} {ds : List PyData}, RpA M vs ds → ds = vs.map (datOf M) ∧ ∀ v ∈ vs, Rp M v (Rh.datOf M v)
  | _, _, .nil => ⟨rfl, fun v h => by cases h⟩
  | _, _, .cons r t => by
    obtain ⟨h1, h2⟩ := RpA.datOf t
    refine ⟨by rw [List.map_cons, datOf_eq r, ← h1], fun v hv => ?_⟩
    rcases List.mem_cons.mp hv with e | e
    · rw [e, datOf_eq r]; exact r
    · exact h2 v e
theorem RpA.of_datOf {M : Hp} : ∀ {vs : List V}, (∀ v ∈ vs, Rp M v (Rh.datOf M v)) → RpA M vs (vs.map (Rh.datOf M))
  | [], _ => .nil
  | v :: vs, h => .cons (h v List.mem_cons_self) (RpA.of_datOf fun w hw => h w (List.mem_cons_of_mem _ hw))
/-- a row's price and rank -/
def rowK : PyData → Option (Int × Int)
  | .tuple [_, _, _, .int p, _, _, _, .int k] => some (p, k)
  | _ => none
def leK (neg : Bool) : PyData → PyData → Bool := fun a b => match rowK a, rowK b with
  | some p, some q => decide (key1 neg p.1 < key1 neg q.1 ∨ (key1 neg p.1 = key1 neg q.1 ∧ p.2 ≤ q.2))
  | _, _ => false
def dSortR (neg : Bool) (f : DF) : DF := fun ρ n Q => f ρ n fun r n1 => ∃ ds, r.dat = some (.list ds) ∧ (∀ d ∈ ds, (rowK d).isSome = true) ∧ Q (.own (ds.mergeSort (leK neg))) n1
theorem rowK_parts {M : Hp} {v : V} {d : PyData} {p k : Int} (r : Rp M v d) (e : rowK d = some (p, k)) : ∃ t ws, v = .ref t ∧ M t = some (.tup ws) ∧ ws.length = 8 ∧ ws[3]? = some (.int p) ∧ ws[7]? = some (.int k) := by
  unfold rowK at e
  split at e
  · cases e
    cases r with
    | tup h1 h2 =>
      cases h2 with
      | cons _ t => cases t with
        | cons _ t => cases t with
          | cons _ t => cases t with
            | cons a t => cases t with
              | cons _ t => cases t with
                | cons _ t => cases t with
                  | cons _ t => cases t with
                    | cons b t =>
                      cases t
                      cases a
                      cases b
                      exact ⟨_, _, rfl, h1, rfl, rfl, rfl⟩
  · cases e
theorem sort_own {c : EC} {A : Nat → Option Addr} {n : Int} {σ : L2.St} {H H2 : Hp} {ρ : List DV} (E : EnvA c A n σ H ρ) {xs : List V} {ds : List PyData} {p : Addr} {leV : V → V → Bool} {leP : PyData → PyData → Bool} (ra : RpA (msk (c.av A) H) xs ds)
    (hle : ∀ a ∈ xs, ∀ b ∈ xs, leV a b = leP (datOf (msk (c.av A) H) a) (datOf (msk (c.av A) H) b)) (eN : LamX.ExtN H H2) (hT : LamX.Tabs Tabz.T H2) (hp : H2 p = none) :
    Fr c n H (upd H2 p (.lst (xs.mergeSort leV))) ∧ VOk c.t (c.av A) H (.ref p) (upd H2 p (.lst (xs.mergeSort leV))) (.own (ds.mergeSort leP)) := by
  have fr : Fr c n H (upd H2 p (.lst (xs.mergeSort leV))) := by
    refine ⟨fun b o _ q e => ?_, Fam.mv E.g.1 fun a o e h => ?_, hT.ext (same_new hp)⟩
    · exact same_new hp b o (eN b o e q)
    · obtain ⟨ys, hy⟩ := Fam.ty E.g.1 e
      rw [hy] at h
      cases h
      exact same_new hp _ _ (eN a _ hy fun ps z => by cases z)
  refine ⟨fr, p, _, rfl, fun o e => ?_, upd_same, ?_⟩
  · apply Classical.byContradiction
    intro no
    have := eN p o e fun ps z => no ⟨ps, z⟩
    rw [hp] at this
    cases this
  · obtain ⟨h1, h2⟩ := ra.datOf
    have h3 : RpA (msk (c.av A) H) (xs.mergeSort leV) ((xs.mergeSort leV).map (datOf (msk (c.av A) H))) := RpA.of_datOf fun v hv => h2 v (List.mem_mergeSort.mp hv)
    rw [List.map_mergeSort (s := leP) hle, ← h1] at h3
    refine h3.ex fun b o q e => ?_
    obtain ⟨g1, g2⟩ := msk_some e
    have e2 := eN b o g2 q
    have nb : b ≠ p := fun z => by rw [z, hp] at e2; cases e2
    rw [msk_out fun z => z.elim g1 nb, upd_ne nb]
    exact e2
theorem pdSortR {X : Cx} {e : Expr} {neg : Bool} {f : DF} (h : PE X e (tSortLam X.K Tabz.T neg (tD f))) : PE X e (tD (dSortR neg f)) := h.imp fun σ H Q ⟨c, A, n, ρ, Q', E, hf, k⟩ => by
  refine ⟨c, A, n, ρ, _, E, hf, fun v r n1 H1 ⟨ds, e1, ok, h1⟩ f1 o1 => ?_⟩
  have rp := o1.dat E e1
  have E1 := E.fr f1
  cases rp with
  | @lst a xs _ g1 g2 =>
    obtain ⟨d1, d2⟩ := g2.datOf
    have okx : ∀ y ∈ xs, ∃ pk, rowK (datOf (msk (c.av A) H1) y) = some pk := fun y hy => Option.isSome_iff_exists.mp (ok _ (by rw [d1]; exact List.mem_map.mpr ⟨y, hy, rfl⟩))
    refine ⟨a, xs, fun y => (rowK (datOf (msk (c.av A) H1) y)).getD (0, 0), rfl, SqL.of (msk_some g1).2, fun y hy => ?_, E1.g.2, fun H2 p eN hT hp => ?_⟩
    · obtain ⟨pk, e2⟩ := okx y hy
      obtain ⟨t, ws, e3, e4, e5, e6, e7⟩ := rowK_parts (d2 y hy) e2
      refine ⟨t, ws, e3, SqT.of (msk_some e4).2, e5, ?_, ?_⟩
      · show _ = some (V.int ((rowK (datOf (msk (c.av A) H1) y)).getD (0, 0)).1)
        rw [e2]; exact e6
      · show _ = some (V.int ((rowK (datOf (msk (c.av A) H1) y)).getD (0, 0)).2)
        rw [e2]; exact e7
    · obtain ⟨fr, vo⟩ := sort_own E1 (leP := leK neg) (leV := rowLe neg fun y => (rowK (datOf (msk (c.av A) H1) y)).getD (0, 0)) g2 (fun a ha b hb => by
        obtain ⟨pa, ea⟩ := okx a ha
        obtain ⟨pb, eb⟩ := okx b hb
        unfold rowLe leK
        simp only [ea, eb, Option.getD_some]) eN hT hp
      exact k _ _ n1 _ h1 (f1.trans fr) (VOk.mono E f1 vo)
/-- sorted(xs, key=lambda row: row[7]) -/
def rowR : PyData → Option Int := fun d => (rowK d).map Prod.snd
def leR : PyData → PyData → Bool := fun a b => match rowK a, rowK b with
  | some p, some q => decide (p.2 ≤ q.2)
  | _, _ => false
theorem lam_rank {prog : Program} {w : World} {A : Around} {s : Shared} {q : Str} {f c' t : Addr} {pm ctv : Value} {items : Array Value} {j : Int} {tj : Tok} {p0 p5 p6 p7 : Pos} (hd : A.depth < recursionLimit) (hlim : s.heap.NoLimit)
    (hf : s.heap.get? f = some (PySem.W.kla_obj "<lambda>" q (lamArgs p0) (rowAt 7 p5 p6 p7) lamScope [] pm c' ctv)) (hrec : s.heap.CodeRec (.ref c') q) (ht : PyProof.Rows.IsTup s.heap t items) (hz : items.size = 8)
    (h7 : items[7]? = some (.int j tj)) :
    wpAny (model prog w) A (call (.ref f) [.ref t]) (PySem.W.KeyPure (.int j) s) (fun _ _ => False) s := by
  refine wpAny_call (PySem.W.kla_callFunE hd hf rfl rfl rfl rfl hrec ?_)
  have hb : bindArgs (PySem.W.kla_fn "<lambda>" q (lamArgs p0) (rowAt 7 p5 p6 p7) lamScope [] pm (.ref c') ctv) ⟨[.ref t], []⟩ = pure [(("row" : Str), Value.ref t)] := by first | rfl | with_unfolding_all rfl | kernel_rfl
  rw [hb]
  refine wpAny_pure (wpAny_newFunctionEnv (scope := lamScope) (by decide +kernel) (fun y hy => by rw [List.mem_singleton.mp hy]; rfl) (fun h₁ hns hsb => ⟨hlim.fresh _ hsb, ?_⟩) rfl)
  show codeAny _ _ (.expr (rowAt 7 p5 p6 p7) (PySem.W.envX q lamScope s.heap.objs.size f (.ref c') [])) _ _
  have kp : ∀ b o, s.heap.get? b = some o → h₁.get? b = some o := fun b o e => hsb.extBut b o (Nat.ne_of_lt (Heap.lt_size e)) (Heap.get?_push_of_some _ e)
  refine PySem.W.kla_codeExpr ?_
  refine rowAt_ok (items := items) (j := 7) hns rfl (ht.keeps kp) (by decide) (by decide) (by rw [hz]; rfl) h7 fun tk => ?_
  exact ⟨_, _, rfl, kp, .int _ _⟩
def tSortRk (K : PySem.W.Frag) (T : List (Addr × Str)) (te : TE) : TE := fun σ H Q => te σ H fun x H1 => ∃ (a : Addr) (xs : List V) (kk : V → Int), x = .ref a ∧ SqL K H1 a xs ∧
  (∀ y ∈ xs, ∃ t ws, y = .ref t ∧ SqT K H1 t ws ∧ ws.length = 8 ∧ ws[7]? = some (.int (kk y))) ∧ LamX.Tabs T H1 ∧
  ∀ H2 p, LamX.ExtN H1 H2 → LamX.Tabs T H2 → H2 p = none → Q (.ref p) (upd H2 p (.lst (xs.mergeSort fun a b => decide (kk a ≤ kk b))))
theorem pe_sortRk {X : Cx} {T : List (Addr × Str)} {c P : Addr} {e : Expr} {te : TE} {p pos lpos kpos p0 p5 p6 p7 : Pos} (hg : Gl X "sorted") (hm : X.mg "sorted" = none) (TB : LamX.TabB X.base X.mg c P) (hcode : X.env.code = .ref c)
    (hmT : (P, X.env.qual ++ "<lambda>") ∈ T) (hu : ∀ p ∈ T, p.1 = P → p.2 = X.env.qual ++ "<lambda>") (hr : Room 1 X.A) (he : PE X e te)
    (hst : backTo pos (starEach [e] X.env) = (false, eval e X.env) :: backTo pos (starEach [] X.env) := by rfl) (hpl : (backTo pos (starEach [e] X.env)).any (·.1) = false := by rfl) :
    PE X (.Call (.Name "sorted" p) [e] [⟨some "key", .Lambda (lamArgs p0) (rowAt 7 p5 p6 p7) lamScope lpos, kpos⟩] pos) (tSortRk X.K T te) := by
  refine ⟨fun pins s σ H Q I h => ?_⟩
  refine wpAny_Call_Name_kw (ld_blt I hg hm (by decide +kernel : bootBuiltins "sorted" = some (.builtin "sorted")) ?_ (by decide) (by decide))
  refine PyProof.Rows.callWith_kw (kws := [⟨some "key", .Lambda (lamArgs p0) (rowAt 7 p5 p6 p7) lamScope lpos, kpos⟩]) ?_ hst hpl rfl rfl
  rw [hst]
  refine Calls.spliced_cons (thn (he.run pins s σ H _ I h) fun u s1 ⟨x, H1, I1, r1, q1⟩ => Calls.spliced_nil ?_)
  obtain ⟨a, xs, kk, rfl, hs, hk, hT, q⟩ := q1
  obtain rfl : u = Value.ref a := r1
  show wpAny _ _ (evalAll ((do let v ← eval (.Lambda (lamArgs p0) (rowAt 7 p5 p6 p7) lamScope lpos) X.env; standAt pos; pure v) :: [])) _ _ s1
  refine wpAny_evalAll_cons (wpAny_bind (LamX.lam_make2 I1 TB hcode hmT hu hT rfl (fun y hy e => by rw [List.mem_singleton.mp hy] at e; cases e) fun f c' pm ctv H2 s2 I2 eN T2 hf hfn hfr hco => wpAny_bind (wpAny_standAt (wpAny_pure ?_))))
  refine wpAny_evalAll_nil ?_
  show wpAny _ _ (call (.builtin "sorted") [.ref a] [("key", .ref f)]) _ _ s2
  obtain ⟨its, rv, hl, hz⟩ := I2.list (extN_L eN hs)
  have hun := hr.un
  have hdp := hr.dp
  have hrec : s2.heap.CodeRec (.ref c') (X.env.qual ++ "<lambda>") := by
    obtain ⟨⟨oc, vs, t, h1, h2, h3⟩, _⟩ := I2.hok c' _ hco
    exact ⟨c', oc, vs, t, rfl, h1, h2, h3⟩
  refine PySem.W.sorted_key_data (β := V) (R := fun v x => RelV x v) (b := false) (bs := xs) (vs := its) (fun y => .int (kk y)) hl.isList (each_of rv) ?_ ?_ hz ?_ (PyProof.Rows.ksk_s1 _ _) (fun _ => PyProof.Rows.ksk_l1 _ _) (fun x => PyProof.Rows.ksk_t1 f x) ?_ ?_
  · intro d hd d' hd'
    obtain ⟨y, _, rfl⟩ := List.mem_map.mp hd
    obtain ⟨y', _, rfl⟩ := List.mem_map.mp hd'
    rfl
  · refine .inr fun d hd => ?_
    obtain ⟨y, _, rfl⟩ := List.mem_map.mp hd
    exact ⟨(fun z => by cases z), fun xs z => by cases z⟩
  · intro y hy
    have e : (PyData.int (kk y)).depth ≤ 10 := by
      simp [PyData.depth]
    omega
  · intro v y hv hy h tk keep
    obtain ⟨t, ws, rfl, ht, hlen, h7⟩ := hk y hy
    obtain rfl : v = Value.ref t := hv
    obtain ⟨its2, rv2, pl, hz2⟩ := I2.tuple (extN_T eN ht)
    obtain ⟨u7, e7, ru7⟩ := rv2.get h7
    obtain ⟨t7, rfl⟩ := ru7
    exact lam_rank (s := { s2 with heap := h, toks := tk }) (items := its2.toArray) (by show X.A.depth < _; omega) (I2.nolimit.keeps keep) (keep _ _ hf) (hrec.keeps keep) (pl.keeps keep) (by rw [List.size_toArray, ← rv2.length, hlen]) (by simpa using e7)
  · intro out cc h' tk keep fresh hget hlen each
    have e2 : PySem.W.dataLe false (fun y : V => PyData.int (kk y)) = fun a b => decide (kk a ≤ kk b) := PySem.W.dataLe_int kk
    rw [e2] at each
    refine ⟨.ref _, upd H2 (s2.heap.objs.size + 1) (.lst (xs.mergeSort fun a b => decide (kk a ≤ kk b))), I2.laid (t' := tk) keep (Nat.le_succ _) ⟨?_, out, cc, vals_of each, hget⟩, rfl, q H2 _ eN T2 (I2.hok.fresh (Nat.le_succ _))⟩
    rw [List.length_mergeSort]
    exact hz
def dSort7 (f : DF) : DF := fun ρ n Q => f ρ n fun r n1 => ∃ ds, r.dat = some (.list ds) ∧ (∀ d ∈ ds, (rowK d).isSome = true) ∧ Q (.own (ds.mergeSort leR)) n1
theorem pdSort7 {X : Cx} {e : Expr} {f : DF} (h : PE X e (tSortRk X.K Tabz.T (tD f))) : PE X e (tD (dSort7 f)) := h.imp fun σ H Q ⟨c, A, n, ρ, Q', E, hf, k⟩ => by
  refine ⟨c, A, n, ρ, _, E, hf, fun v r n1 H1 ⟨ds, e1, ok, h1⟩ f1 o1 => ?_⟩
  have rp := o1.dat E e1
  have E1 := E.fr f1
  cases rp with
  | @lst a xs _ g1 g2 =>
    obtain ⟨d1, d2⟩ := g2.datOf
    have okx : ∀ y ∈ xs, ∃ pk, rowK (datOf (msk (c.av A) H1) y) = some pk := fun y hy => Option.isSome_iff_exists.mp (ok _ (by rw [d1]; exact List.mem_map.mpr ⟨y, hy, rfl⟩))
    refine ⟨a, xs, fun y => ((rowK (datOf (msk (c.av A) H1) y)).getD (0, 0)).2, rfl, SqL.of (msk_some g1).2, fun y hy => ?_, E1.g.2, fun H2 p eN hT hp => ?_⟩
    · obtain ⟨pk, e2⟩ := okx y hy
      obtain ⟨t, ws, e3, e4, e5, e6, e7⟩ := rowK_parts (d2 y hy) e2
      refine ⟨t, ws, e3, SqT.of (msk_some e4).2, e5, ?_⟩
      show _ = some (V.int ((rowK (datOf (msk (c.av A) H1) y)).getD (0, 0)).2)
      rw [e2]; exact e7
    · obtain ⟨fr, vo⟩ := sort_own E1 (leP := leR) (leV := fun a b => decide (((rowK (datOf (msk (c.av A) H1) a)).getD (0, 0)).2 ≤ ((rowK (datOf (msk (c.av A) H1) b)).getD (0, 0)).2)) g2 (fun a ha b hb => by
        obtain ⟨pa, ea⟩ := okx a ha
        obtain ⟨pb, eb⟩ := okx b hb
        unfold leR
        simp only [ea, eb, Option.getD_some]) eN hT hp
      exact k _ _ n1 _ h1 (f1.trans fr) (VOk.mono E f1 vo)
/-- f(a, k = b): the values in the def's order -/
def tDK (f : DA) : TA := tDA f
theorem _root_.L2.PK.imp {X : Cx} {kws : List Keyword} {t t' : TA} (h : PK X kws t) (i : ∀ σ H Q, t' σ H Q → t σ H Q) : PK X kws t' := ⟨fun pos pins s σ H Q I q => h.run pos pins s σ H Q I (i σ H Q q)⟩
theorem pkNil {X : Cx} : PK X [] (tDA dNil) := pk_nil.imp fun σ H Q ⟨c, A, n, ρ, Q', E, hf, k⟩ => k [] [] n H hf (.refl E.g) .nil
theorem pkCons {X : Cx} {nm : Option Str} {e : Expr} {kws : List Keyword} {kpos : Pos} {f : DF} {g : DA} (ha : PE X e (tD f)) (hr : PK X kws (tDA g)) : PK X (⟨nm, e, kpos⟩ :: kws) (tDA (dCons f g)) := (pk_cons ha hr).imp fun σ H Q ⟨c, A, n, ρ, Q', E, hf, k⟩ => by
  refine ⟨c, A, n, ρ, _, E, hf, fun v x n1 H1 hg f1 o1 => ⟨c, A, n1, ρ, _, E.fr f1, hg, fun vs rs n2 H2 hq f2 o2 => ?_⟩⟩
  exact k (v :: vs) _ n2 H2 hq (f1.trans f2) (.cons ((o1.later E f1 f2).cold E) (cold_cold _) (o2.mono E f1))
theorem VsOk.later {c : EC} {A : Nat → Option Addr} {n m m' : Int} {σ : L2.St} {H H1 H2 : Hp} {ρ : List DV} (E : EnvA c A n σ H ρ) (f : Fr c m' H H1) (f' : Fr c m H1 H2) : ∀ {vs : List V} {rs : List DV}, VsOk c.t (c.av A) H H1 vs rs → VsOk c.t (c.av A) H H2 vs rs
  | _, _, .nil => .nil
  | _, _, .cons h ec t => .cons (h.later E f f') ec (VsOk.later E f f' t)
/-- how keywords lie: g puts the positional ones and the told ones in the def's order, dflt among them -/
def dCallK (m : DM) (gD : List DV → List DV → List DV) (g h : DA) : DF := fun ρ n Q => g ρ n fun rs n1 => h ρ n1 fun ks n2 => plainR (gD rs ks) ∧ m (gD rs ks) n2 Q
def KwOk (gV : List V → List V → List V) (gD : List DV → List DV → List DV) : Prop := ∀ (t : V) (B : Addr → Prop) (H H' : Hp) (vs zs : List V) (rs ks : List DV), VsOk t B H H' vs rs → VsOk t B H H' zs ks → VsOk t B H H' (gV vs zs) (gD rs ks)
theorem callK_le {m : DM} {gV : List V → List V → List V} {gD : List DV → List DV → List DV} {g h : DA} (hk : KwOk gV gD) (E0 : XK) (σ : L2.St) (H : Hp) (Q : VK) (q : tD (dCallK m gD g h) σ H Q) : tCallK (spD m) gV E0 (tDA g) (tDA h) σ H Q := by
  obtain ⟨c, A, n, ρ, Q', E, hf, k⟩ := q
  refine ⟨c, A, n, ρ, _, E, hf, fun vs rs n1 H1 h1 f1 o1 => ⟨c, A, n1, ρ, _, E.fr f1, h1, fun zs ks n2 H2 ⟨pl, hm⟩ f2 o2 => ?_⟩⟩
  have E2 := (E.fr f1).fr f2
  have oa : VsOk c.t (c.av A) H H2 (gV vs zs) (gD rs ks) := hk _ _ _ _ _ _ _ _ (o1.later E f1 f2) (o2.mono E f1)
  refine ⟨E2.ec, n2, gD rs ks, Q', rfl, E2.g, rfl, VsOk.now (m := n2) E oa pl, hm, fun v r n' H' hq f3 o3 => ?_⟩
  exact k v r n' H' hq ((f1.trans f2).trans f3) (VOk.mono E (f1.trans f2) o3)
theorem pdCallK {X : Cx} {CX : CXT} {k : Nat} {f : Addr} {fd : FuncData} {ps ks : List Str} {gW : List Value → List Value → List Value} {gV : List V → List V → List V} {gD : List DV → List DV → List DV} {m : DM} {x : Str} {p pos : Pos} {e : Expr} {es : List Expr} {kws : List Keyword} {g h : DA} {E0 : XK} (hkw : KwOk gV gD) (F : FnOk X.prog X.w X.K X.mg X.base CX k f fd ps (spD m)) (hr : Room k X.A) (hg : Gl X x) (hm : X.mg x = some (.ref f)) (hk : PySem.W.keepIn X.K (.ref f) = true) (hb : KBinds X.K fd ps ks gW gV) (hx : Passes CX X E0)
    (ha : PA X (e :: es) (tDA g)) (hkws : PK X kws (tDA h)) (hall : (backToKw pos (keywordEach kws X.env)).all (·.1.isSome) = true := by rfl) (hks : (backToKw pos (keywordEach kws X.env)).filterMap (·.1) = ks := by rfl)
    (hdb : (x == ("__debug__" : Str)) = false := by decide) (he : starEach (e :: es) X.env = (false, eval e X.env) :: starEach es X.env := by rfl)
    (hpl : ((backTo pos (starEach (e :: es) X.env)).any (·.1) || (backToKw pos (keywordEach kws X.env)).any (·.1.isNone)) = false := by rfl) :
    PE X (.Call (.Name x p) (e :: es) kws pos) (tD (dCallK m gD g h)) := (pe_callK F hr hg hm hk hb hx ha hkws hall hks hdb he hpl).imp (callK_le hkw E0)
end

/-! ### defs that make lambdas -/
section
variable [Fam] [Tabz] {P : Program} {w : World} {K : PySem.W.Frag} {mg : Str → Option Value} {base : Heap}
/-- a def whose code object is known -/
def FunC (K : PySem.W.Frag) (x qual : Str) (st : Stmt) (f c : Addr) (fd : FuncData) : Prop := ∃ (oc : Value) (od : Option Addr) (kV doc pm : Value) (an : Option Addr) (ct : Value) (osl : Array (Option Value)),
  fd = PySem.W.fnOf x qual (defArgs st) (defBody st) (defScope st) .none kV doc pm an (.ref c) ct ∧ K.lookup f = some ⟨oc, od, .func fd, osl⟩ ∧ PySem.W.codeIn K (.ref c) qual = true
theorem FunC.ok {x qual : Str} {st : Stmt} {f c : Addr} {fd : FuncData} {N ps : List Str} {k : Nat} {sp : Sp} (F : FunC K x qual st f c fd) (S : FnScope N ps (defScope st)) (len : ∀ vs H Q E, sp vs H Q E → vs.length = ps.length)
    (hbody : ∀ (A : Around) (outer : List Env) (s : Shared) (H : Hp) (vs : List V) (Q : VK) (E : XK), Room k (A.deeper (PyProof.Rows.envOfC qual (defScope st) s.heap.objs.size f (.ref c))) → sp vs H Q E →
      ∃ t, PSs (cxOf CX0 P w K mg base N qual (defScope st) f (.ref c) A outer s H E).nox (defBody st) t ∧ t { nx := fun _ H' => Q .non H', rt := Q } (start N vs) H) : FnOk P w K mg base CX0 (k + 1) f fd ps sp := by
  obtain ⟨oc, od, kV, doc, pm, an, ct, osl, rfl, lk, hcd⟩ := F
  refine fn_of lk hcd S len fun A outer s H vs Q E hr hsp => ?_
  obtain ⟨t, h, q⟩ := hbody A outer s H vs Q E hr hsp
  exact ⟨t, h.nox, q⟩
theorem FunC.mk {x qual : Str} {st : Stmt} {f c : Addr} {oc : Value} {od an : Option Addr} {osl : Array (Option Value)} {kV doc pm ct : Value} (l : K.lookup f = some ⟨oc, od, .func (PySem.W.fnOf x qual (defArgs st) (defBody st) (defScope st) .none kV doc pm an (.ref c) ct), osl⟩)
    (h : PySem.W.codeIn K (.ref c) qual = true) : FunC K x qual st f c (PySem.W.fnOf x qual (defArgs st) (defBody st) (defScope st) .none kV doc pm an (.ref c) ct) := ⟨oc, od, kV, doc, pm, an, ct, osl, rfl, l, h⟩
theorem okDC {x qual : Str} {st : Stmt} {f cC : Addr} {fd : FuncData} {N ps : List Str} {k : Nat} {F : DS} {m : DM} (Fn : FunC K x qual st f cC fd) (S : FnScope N ps (defScope st)) (len : ∀ rs n Q, m rs n Q → plainR rs ∧ rs.length = ps.length)
    (body : ∀ (A : Around) (outer : List Env) (s : Shared) (H : Hp) (E : XK), Room k (A.deeper (PyProof.Rows.envOfC qual (defScope st) s.heap.objs.size f (.ref cC))) → PSs (cxOf CX0 P w K mg base N qual (defScope st) f (.ref cC) A outer s H E).nox (defBody st) (sD F))
    (data : ∀ rs n Q, m rs n Q → F { nx := fun _ n => Q (.d .none) n, rt := Q } (rs ++ List.replicate (N.length - rs.length) .un) n) : FnOk P w K mg base CX0 (k + 1) f fd ps (spD m) := by
  refine Fn.ok S (fun vs H Q E ⟨c, n, rs, Q', h0, g, pn, ok, hm, _⟩ => ?_) (fun A outer s H vs Q E hr ⟨c, n, rs, Q', h0, g, pn, ok, hm, kk⟩ => ⟨_, body A outer s H E hr, c, fun _ => none, n, _, { nx := fun _ n => Q' (.d .none) n, rt := Q' }, ?_, data rs n Q' hm, ?_⟩)
  · rw [ok.length]
    exact (len _ _ _ hm).2
  · subst h0
    have av : ∀ {b : Addr}, c.av (fun _ => none) b → c.B b := fun {b} z => z.elim id fun ⟨i, e⟩ => by cases e
    have xt : Xt (msk c.B c.H0) (msk (c.av fun _ => none) c.H0) := fun b o _ e => by
      obtain ⟨h1, h2⟩ := msk_some e
      rw [msk_out fun z => h1 (av z)]
      exact h2
    refine ⟨fun b o _ _ e => e, g, fun i a e => (by cases e), fun i a e => (by cases e), fun i j a e => (by cases e), fun i y e => ?_, ?_, fun p hp => (by rw [pn] at hp; cases hp), ⟨0, fun _ _ => rfl⟩, fun i a y e => (by cases e)⟩
    · by_cases hi : i < rs.length
      · rw [List.getElem?_append_left hi] at e
        obtain ⟨v, h1, h2, h3⟩ := ok.get e
        have hs : (L2.start N vs)[i]? = some (some v) := by
          unfold L2.start
          rw [List.getElem?_append_left (by rw [List.length_map, ok.length]; exact hi), List.getElem?_map, h1]
          rfl
        rw [hs]
        cases y with
        | un => exact h2.elim
        | raw v => exact h2.elim
        | tape => 
          refine ⟨?_, h2.2⟩
          rw [show v = c.t from h2.1]
        | d z => exact ⟨v, rfl, Rp.ex h2 xt⟩
        | own ds => cases h3
        | dic kvs => 
          rcases (len _ _ _ hm).1 _ (List.mem_of_getElem? e) with ⟨d, q⟩ | q <;> cases q
      · rw [List.getElem?_append_right (by omega), List.getElem?_replicate] at e
        split at e
        · cases e
          exact True.intro
        · cases e
    · unfold L2.start
      rw [List.length_append, List.length_append, List.length_map, List.length_replicate, List.length_replicate, ok.length]
  · subst h0
    refine ⟨fun A n σ H' ρ h e => ?_, fun v r n H' h fr o => kk v r n H' h fr o, fun A n σ H ρ h e => h.elim, fun A n σ H ρ h e => h.elim⟩
    exact kk .non _ n H' h e.fr0 Rp.non
end

/-! ### data readings: what laws have in common -/
section
variable [Fam] [Tabz]
inductive Cnd (p : Prop) : Prop
  | mk (a b : True) (h : p) : Cnd p
theorem cnd {p : Prop} (h : p) : Cnd p := ⟨True.intro, True.intro, h⟩
theorem Cnd.get {p : Prop} (c : Cnd p) : p := by
  obtain ⟨_, _, h⟩ := c
  exact h
theorem tapeR {rs : List DV} {ds : List PyData} (h : tapeOf rs = some ds) : plainR rs ∧ rs.length = ds.length + 1 := by
  cases rs with
  | nil => cases h
  | cons r rs =>
    cases r <;> first | cases h; done | skip
    have e' : plainOf rs = some ds := h
    obtain ⟨h1, h2⟩ := plainOf_R e'
    refine ⟨fun r hr => ?_, by show rs.length + 1 = _; rw [h2]⟩
    rcases List.mem_cons.mp hr with z | z
    · exact .inr z
    · exact h1 r z
theorem rp_strs {M : Hp} : ∀ ns : List Str, RpA M (ns.map V.str) (ns.map PyData.str)
  | [] => .nil
  | n :: ns => .cons (.str n) (rp_strs ns)
theorem ixMem {xs : List PyData} {i : Int} (h0 : 0 ≤ i) (h : i < xs.length) : ∃ d ∈ xs, opIxL (.list xs) (.int i) = some (.d d) := by
  obtain ⟨j, rfl⟩ := Int.eq_ofNat_of_zero_le h0
  have hj : j < xs.length := by omega
  refine ⟨xs[j], List.getElem_mem hj, ?_⟩
  show (atI xs (j : Int)).map DV.d = _
  rw [atI_nat (v := xs[j]) (List.getElem?_eq_getElem hj)]
  rfl
theorem ix4 {a b c d : PyData} {w : Int} (h0 : 0 ≤ w) (h : w < 4) : opIxL (.list [a, b, c, d]) (.int w) = some (.d a) ∨ opIxL (.list [a, b, c, d]) (.int w) = some (.d b) ∨ opIxL (.list [a, b, c, d]) (.int w) = some (.d c) ∨ opIxL (.list [a, b, c, d]) (.int w) = some (.d d) := by
  have e : w = 0 ∨ w = 1 ∨ w = 2 ∨ w = 3 := by omega
  rcases e with e | e | e | e <;> subst e
  · exact .inl rfl
  · exact .inr (.inl rfl)
  · exact .inr (.inr (.inl rfl))
  · exact .inr (.inr (.inr rfl))
theorem ix3 {a b c : PyData} {w : Int} (h0 : 0 ≤ w) (h : w < 3) : opIxL (.list [a, b, c]) (.int w) = some (.d a) ∨ opIxL (.list [a, b, c]) (.int w) = some (.d b) ∨ opIxL (.list [a, b, c]) (.int w) = some (.d c) := by
  have e : w = 0 ∨ w = 1 ∨ w = 2 := by omega
  rcases e with e | e | e <;> subst e
  · exact .inl rfl
  · exact .inr (.inl rfl)
  · exact .inr (.inr rfl)
theorem ix2 {a b : PyData} {w : Int} (h0 : 0 ≤ w) (h : w < 2) : opIxL (.list [a, b]) (.int w) = some (.d a) ∨ opIxL (.list [a, b]) (.int w) = some (.d b) := by
  have e : w = 0 ∨ w = 1 := by omega
  rcases e with e | e <;> subst e
  · exact .inl rfl
  · exact .inr rfl
theorem ixS {ns : List Str} {r : Int} (h0 : 0 ≤ r) (h : r < ns.length) : ∃ s ∈ ns, opIxL (.list (ns.map PyData.str)) (.int r) = some (.d (.str s)) := by
  obtain ⟨j, rfl⟩ := Int.eq_ofNat_of_zero_le h0
  have hj : j < ns.length := by omega
  refine ⟨ns[j], List.getElem_mem hj, ?_⟩
  show (atI (ns.map PyData.str) (j : Int)).map DV.d = _
  rw [atI_nat (v := .str ns[j]) (by rw [List.getElem?_map, List.getElem?_eq_getElem hj]; rfl)]
  rfl
def bInt : List PyData → Option DV
  | [.int i] => some (.d (.int i))
  | [.bool true] => some (.d (.int 1))
  | [.bool false] => some (.d (.int 0))
  | _ => none
theorem rsInt : RsD (fun xs H Q => (∃ i, xs = [.int i] ∧ Q (.int i) H) ∨ ∃ k, xs = [.bl k] ∧ Q (.int (if k then 1 else 0)) H) bInt := by
  intro t B H vs as z Q _ r e k
  cases r with
  | nil => cases e
  | cons r t =>
    cases t with
    | cons _ _ =>
      cases r with
      | bl b => cases b <;> cases e
      | _ => cases e
    | nil =>
      cases r with
      | bl b =>
        cases b with
        | true => cases e; exact .inr ⟨_, rfl, k _ H (fun _ _ h => h) (Rp.int _)⟩
        | false => cases e; exact .inr ⟨_, rfl, k _ H (fun _ _ h => h) (Rp.int _)⟩
      | int i => cases e; exact .inl ⟨_, rfl, k _ H (fun _ _ h => h) (Rp.int _)⟩
      | _ => cases e
theorem bInt_dec (p : Prop) [Decidable p] : bInt [.bool (decide p)] = some (.d (.int (if p then 1 else 0))) := by
  by_cases h : p
  · rw [decide_eq_true h, if_pos h]
    rfl
  · rw [decide_eq_false h, if_neg h]
    rfl
/-- a rule or another one -/
theorem callR_or {X : Cx} {f : Value} {r q : List V → Hp → VK → Prop} (h1 : CallR X f r) (h2 : CallR X f q) : CallR X f (fun xs H Q => r xs H Q ∨ q xs H Q) := by
  intro pins s σ H xs us Q I rv h
  rcases h with h | h
  · exact h1 pins s σ H xs us Q I rv h
  · exact h2 pins s σ H xs us Q I rv h
/-- str of an int, of a text -/
def bStr : List PyData → Option DV
  | [.int i] => if i.natAbs.log2 < 1920 then some (.d (.str (Str.ofString (toString i)))) else none
  | [.str a] => some (.d (.str a))
  | _ => none
theorem rsStr : RsD (fun xs H Q => (∃ i, xs = [.int i] ∧ i.natAbs.log2 < 1920 ∧ Q (.str (Str.ofString (toString i))) H) ∨ ∃ a, xs = [.str a] ∧ Q (.str a) H) bStr := by
  intro t B H vs as z Q _ r e k
  cases r with
  | nil => cases e
  | cons r t =>
    cases t with
    | cons _ _ => cases r <;> cases e
    | nil =>
      cases r with
      | int i =>
        have e' : (if i.natAbs.log2 < 1920 then some (DV.d (PyData.str (Str.ofString (toString i)))) else none) = some z := e
        clear e
        split at e'
        · cases e'
          exact .inl ⟨_, rfl, by assumption, k _ H (fun _ _ h => h) (Rp.str _)⟩
        · cases e'
      | str a => cases e; exact .inr ⟨_, rfl, k _ H (fun _ _ h => h) (Rp.str _)⟩
      | _ => cases e
theorem call_strA {X : Cx} : CallR X (.type "str") (fun xs H Q => (∃ i, xs = [.int i] ∧ i.natAbs.log2 < 1920 ∧ Q (.str (Str.ofString (toString i))) H) ∨ ∃ a, xs = [.str a] ∧ Q (.str a) H) := callR_or call_str_int SkE.call_str_str
/-- the texts of a list -/
def strsOf : List PyData → Option (List Str)
  | [] => some []
  | .str i :: ds => (strsOf ds).map (i :: ·)
  | _ => none
theorem strsOf_map : ∀ ys : List Str, strsOf (ys.map PyData.str) = some ys
  | [] => rfl
  | y :: ys => by
    show (strsOf (ys.map PyData.str)).map (y :: ·) = _
    rw [strsOf_map ys]
    rfl
theorem strs_of {M : Hp} : ∀ {vs : List V} {ds : List PyData} {ns : List Str}, RpA M vs ds → strsOf ds = some ns → vs = ns.map V.str
  | _, _, _, .nil, e => by cases e; rfl
  | _, _, ns, .cons r t, e => by
    cases r <;> simp only [strsOf, reduceCtorEq] at e
    cases q : strsOf _ with
    | none => rw [q] at e; cases e
    | some ms =>
      rw [q] at e
      cases e
      rw [strs_of t q]
      rfl
def joinSize (a : Str) (ys : List Str) : Prop := (ys.map (·.length)).sum + ys.length * a.length ≤ 16777216
def dJoin (f g : DF) : DF := fun ρ n Q => f ρ n fun x n1 => ∃ a, x = .d (.str a) ∧ g ρ n1 fun y n2 => ∃ ds, y.dat = some (.list ds) ∧ ∃ ys, strsOf ds = some ys ∧ Cnd (joinSize a ys) ∧ Q (.d (.str (Txt.join a ys))) n2
theorem pdJoin {X : Cx} {e : Expr} {to te : TE} {f g : DF} (h : PE X e (tM1 (fun x xs H Q => ∃ a p, ∃ ys : List Str, x = .str a ∧ xs = [.ref p] ∧ (SqL X.K H p (ys.map V.str) ∨ SqT X.K H p (ys.map V.str)) ∧ (ys.map (·.length)).sum + ys.length * a.length ≤ 16777216 ∧ Q (.str (Txt.join a ys)) H) to te)) (ho : ∀ σ H Q, tD f σ H Q → to σ H Q) (he : ∀ σ H Q, tD g σ H Q → te σ H Q) : PE X e (tD (dJoin f g)) := h.imp fun σ H Q ⟨c, A, n, ρ, Q', E, hf, k⟩ => by
  refine ho _ _ _ ⟨c, A, n, ρ, _, E, hf, fun v x n1 H1 ⟨a, ex, hg⟩ f1 o1 => ?_⟩
  subst ex
  cases o1
  refine ⟨⟨a, rfl⟩, he _ _ _ ⟨c, A, n1, ρ, _, E.fr f1, hg, fun w y n2 H2 ⟨ds, ed, ys, es, hs, hq⟩ f2 o2 => ?_⟩⟩
  have rp := o2.dat (E.fr f1) ed
  cases rp with
  | @lst p xs _ h1 h2 =>
    have ex := strs_of h2 es
    subst ex
    exact ⟨a, p, ys, rfl, rfl, .inl (SqL.of (msk_some h1).2), hs.get, k _ _ n2 H2 hq (f1.trans f2) (Rp.str _)⟩
/-- isinstance(e, T), T a built-in class -/
def tyD : PyData → String
  | .none => "NoneType"
  | .bool _ => "bool"
  | .int _ => "int"
  | .str _ => "str"
  | .list _ => "list"
  | .tuple _ => "tuple"
  | .dict _ => "dict"
def isiB (T : String) (d : PyData) : Bool := match T, d with
  | "int", .bool _ => true
  | "int", .int _ => true
  | "bool", .bool _ => true
  | "str", .str _ => true
  | "list", .list _ => true
  | "tuple", .tuple _ => true
  | _, _ => false
theorem kit_int (a : String) (h : a ∈ ["NoneType", "bool", "int", "str", "list", "tuple"]) : kitB a "int" = some (a == "int" || a == "bool") ∧ kitB a "bool" = some (a == "bool") ∧ kitB a "str" = some (a == "str") ∧ kitB a "list" = some (a == "list") ∧ kitB a "tuple" = some (a == "tuple") := by
  simp only [List.mem_cons, List.not_mem_nil, or_false] at h
  rcases h with rfl | rfl | rfl | rfl | rfl | rfl <;> decide +kernel
def isiOk (T : String) : Prop := T = "int" ∨ T = "bool" ∨ T = "str" ∨ T = "list" ∨ T = "tuple"
theorem kit_d {K : PySem.W.Frag} {T : String} (hT : isiOk T) {d : PyData} (hd : ∀ kvs, d ≠ .dict kvs) : PySem.W.kitOne K (.type (tyD d)) (.type T) = some (isiB T d) := by
  cases d with
  | dict kvs => exact absurd rfl (hd kvs)
  | none => obtain ⟨h1, h2, h3, h4, h5⟩ := kit_int "NoneType" (by decide); rcases hT with e | e | e | e | e <;> subst e <;> exact kit_ty (by assumption)
  | bool b => obtain ⟨h1, h2, h3, h4, h5⟩ := kit_int "bool" (by decide); rcases hT with e | e | e | e | e <;> subst e <;> exact kit_ty (by assumption)
  | int i => obtain ⟨h1, h2, h3, h4, h5⟩ := kit_int "int" (by decide); rcases hT with e | e | e | e | e <;> subst e <;> exact kit_ty (by assumption)
  | str s => obtain ⟨h1, h2, h3, h4, h5⟩ := kit_int "str" (by decide); rcases hT with e | e | e | e | e <;> subst e <;> exact kit_ty (by assumption)
  | list xs => obtain ⟨h1, h2, h3, h4, h5⟩ := kit_int "list" (by decide); rcases hT with e | e | e | e | e <;> subst e <;> exact kit_ty (by assumption)
  | tuple xs => obtain ⟨h1, h2, h3, h4, h5⟩ := kit_int "tuple" (by decide); rcases hT with e | e | e | e | e <;> subst e <;> exact kit_ty (by assumption)
theorem rp_ty {K : PySem.W.Frag} {M H : Hp} {v : V} {d : PyData} (r : Rp M v d) (m : ∀ b o, M b = some o → H b = some o) : TyX K H v (.type (tyD d)) ∧ ∀ kvs, d ≠ .dict kvs := by
  cases r with
  | non => exact ⟨.base .non, fun _ z => by cases z⟩
  | bl b => exact ⟨.base (.bl b), fun _ z => by cases z⟩
  | int i => exact ⟨.base (.int i), fun _ z => by cases z⟩
  | str s => exact ⟨.base (.str s), fun _ z => by cases z⟩
  | lst h _ => exact ⟨.base (.lst (m _ _ h)), fun _ z => by cases z⟩
  | tup h _ => exact ⟨.base (.tup (m _ _ h)), fun _ z => by cases z⟩
def dIsi (T : String) (f : DF) : DF := fun ρ n Q => f ρ n fun r n1 => ∃ d, r.dat = some d ∧ Q (.d (.bool (isiB T d))) n1
theorem pdIsi {X : Cx} {c e : Expr} {p pos : Pos} {T : String} {f : DF} (hT : isiOk T) (hm : X.mg "isinstance" = none) (hg : Gl X "isinstance") (hc : PE X c (tC (.ty T))) (he : PE X e (tD f))
    (hs : starEach (e :: [c]) X.env = (false, eval e X.env) :: starEach [c] X.env := by rfl) (hpl : (backTo pos (starEach [c] X.env)).any (·.1) = false := by rfl) (hs2 : starEach [c] X.env = (false, eval c X.env) :: starEach [] X.env := by rfl) :
    PE X (.Call (.Name "isinstance" p) [e, c] [] pos) (tD (dIsi T f)) := (pe_callB call_isi hg hm (by decide +kernel) (pa_cons he (pa_cons hc pa_nil hs2) hs) (by decide) (by decide) hs hpl).imp fun σ H Q ⟨c, A, n, ρ, Q', E, hf, k⟩ => by
  refine ⟨c, A, n, ρ, _, E, hf, fun v r n1 H1 ⟨d, ed, hq⟩ f1 o1 => ?_⟩
  have rp := o1.dat E ed
  obtain ⟨ty, nd⟩ := rp_ty (K := X.K) (H := H1) rp fun b o h => (msk_some h).2
  exact ⟨v, .ty T, _, _, _, rfl, .ty T, ty, kit_d hT nd, k _ _ n1 H1 hq f1 (Rp.bl _)⟩
/-- a statement, then the rest from a word between them -/
def dCut (F G : DS) : DS := fun E ρ n => ∃ Mid : List DV → Int → Prop, F { E with nx := Mid } ρ n ∧ ∀ ρ n, Mid ρ n → G E ρ n
theorem psCut {X : Cx} {st : Stmt} {rest : List Stmt} {F G : DS} (h : PS X st (sD F)) (h2 : PSs X rest (sD G)) : PSs X (st :: rest) (sD (dCut F G)) := (pss_cons h h2).imp fun D σ H ⟨c, A, n, ρ, E, e, ⟨Mid, hF, hG⟩, L⟩ =>
  ⟨c, A, n, ρ, _, e, hF, fun A n σ H ρ h e' => ⟨c, A, n, ρ, E, e', hG ρ n h, L⟩, L.rt, L.bk, L.ct⟩
theorem mul_big {a b : Int} (ha : a.natAbs < 2 ^ 400) (hb : b.natAbs < 2 ^ 400) : CMulW a b := wide_mul (a := 400) (b := 400) ha hb (by decide) (by decide) (by decide)
end

structure Txt (mg : Str → Option Value) : Prop where
  b_len : mg "len" = none
  b_max : mg "max" = none
  b_min : mg "min" = none
  b_range : mg "range" = none
  b_isinstance : mg "isinstance" = none
  b_abs : mg "abs" = none
  b_bool : mg "bool" = none
/-- no def makes lambdas -/
instance tab0 : Tabz := ⟨[]⟩
/-! ### the wells: cells, what is left of one, a seed -/
theorem op_powB {X : Cx} : OpR X (PySem.binaryOp .Pow) (rI (fun i j => 0 ≤ j ∧ (Builtin.Int.intBits i : Int) * j ≤ 2 ^ 27) fun i j => .int (i ^ j.toNat)) := L2.opI fun _ _ _ _ _ _ _ hc q => PyProof.Rows.pow_int hc.1 hc.2 q
def We (H : Hp) (p l : Addr) : Prop := ∃ (cells : List Int) (cur seed : Int), H p = some (.lst [.ref l, .int cur, .int seed]) ∧ H l = some (.lst (cells.map V.int)) ∧ (∀ c ∈ cells, 0 ≤ c) ∧ cells.length ≤ 63 ∧ 0 ≤ cur ∧ 0 ≤ seed ∧ seed < 2 ^ 40
theorem We.ne {H : Hp} {p l : Addr} (h : We H p l) : p ≠ l := fun e => by
  obtain ⟨cells, cur, seed, h1, h2, _⟩ := h
  rw [e, h2] at h1
  cases cells with
  | nil => cases h1
  | cons c cs => cases h1
theorem We.keep {H H' : Hp} {p l : Addr} (h : We H p l) (k1 : ∀ o, H p = some o → H' p = some o) (k2 : ∀ o, H l = some o → H' l = some o) : We H' p l := by
  obtain ⟨cells, cur, seed, h1, h2, r⟩ := h
  exact ⟨cells, cur, seed, k1 _ h1, k2 _ h2, r⟩
instance famW : Fam where
  Tq := fun u t H _ => ∀ a, t = .ref a → ∃ l, u = .ref l ∧ We H a l
  Pq := fun u t a => t = .ref a ∨ (u = .ref a ∧ ∃ b, t = .ref b)
  mv := fun g k a e => by
    obtain ⟨l, el, h⟩ := g a e
    exact ⟨l, el, h.keep (fun o => k _ o (.inl e)) fun o => k _ o (.inr ⟨el, a, e⟩)⟩
  ty := fun {u t H n a} g e => by
    rcases e with e | ⟨e, b, eb⟩
    · obtain ⟨l, el, cells, cur, seed, h1, h2, r⟩ := g _ e
      exact ⟨_, h1⟩
    · obtain ⟨l, el, cells, cur, seed, h1, h2, r⟩ := g _ eb
      rw [el] at e
      cases e
      exact ⟨_, h2⟩
def spWell (K : PySem.W.Frag) : Sp := fun vs H Q _ => ∃ (a : Addr) (ns : List Int), vs = [.ref a] ∧ SqL K H a (ns.map V.int) ∧ ns.length ≤ 63 ∧ (∀ z ∈ ns, Builtin.Int.intBits z ≤ 1048576) ∧ ∀ p l H', H p = none → H l = none → Same H H' → We H' p l → Q (.ref p) H'
def Keep2 (p l : Addr) (H H' : Hp) : Prop := ∀ b o, b ≠ p → b ≠ l → H b = some o → H' b = some o
def spDraw : Sp := fun vs H Q _ => ∃ (p l : Addr) (many : Int), vs = [.ref p, .int many] ∧ We H p l ∧ 1 ≤ many ∧ many < 2 ^ 300 ∧
  ∀ r H', 0 ≤ r → r < many → We H' p l → Keep2 p l H H' → Q (.int r) H'
theorem bits_abs (z : Int) : Builtin.Int.intBits z ≤ 1048576 → z.natAbs < 2 ^ 1048576 := fun h => Nat.lt_of_lt_of_le (PyProof.Rows.natAbs_lt_pow_bits z) (Nat.pow_le_pow_right (by decide) h)
theorem bits_sum {seed cell : Int} (h0 : 0 ≤ seed) (h1 : seed < 2 ^ 40) (h : Builtin.Int.intBits cell ≤ 1048576) : (Builtin.Int.intBits (seed * 50021 + cell) : Int) * 3 ≤ 2 ^ 27 := by
  have a : cell.natAbs < 2 ^ 1048576 := bits_abs cell h
  have b : (2 : Nat) ^ 60 ≤ 2 ^ 1048576 := Nat.pow_le_pow_right (by decide) (by decide)
  have e : (2 : Nat) ^ 1048577 = 2 * 2 ^ 1048576 := by rw [show (1048577 : Nat) = 1048576 + 1 from rfl, Nat.pow_succ, Nat.mul_comm]
  have c : (seed * 50021 + cell).natAbs < 2 ^ 1048577 := by
    rw [e]
    generalize (2 : Nat) ^ 1048576 = B at a b
    have : (2 : Nat) ^ 60 = 1152921504606846976 := by decide
    omega
  have := PyProof.Rows.intBits_le c
  omega
theorem at_nat {xs : List V} {i : Nat} {v : V} (h : xs[i]? = some v) : atI xs (i : Int) = some v := atI_nat h
section
variable [Tabz] {P : Program} {w : World} {K : PySem.W.Frag} {mg : Str → Option Value} {base : Heap}
abbrev s_law_well : Stmt := topS 3
theorem sc_law_well : FnScope ["script", "seed", "cell"] ["script"] (defScope s_law_well) := ⟨rfl, rfl, rfl, by decide +kernel, rfl, by decide +kernel, by decide +kernel⟩
theorem ok_well {f : Addr} {fd : FuncData} (F : Fun K "_law_well" "_law_well" s_law_well f fd) (T : Txt mg) : FnOk P w K mg base CX0 1 f fd ["script"] (spWell K) := by
  refine F.ok sc_law_well (fun vs H Q E h => ?_) (fun cdv A outer s H vs Q E hr h => ?_)
  · obtain ⟨a, ns, rfl, _⟩ := h
    rfl
  · obtain ⟨a, ns, rfl, hS, hlen, hb, q⟩ := h
    refine ⟨_, (pss_cons (ps_set (i := 1) sc_law_well.nd rfl (Or.inl rfl) pe_int)
          (pss_cons (ps_for PassesOwn.never rfl (pi_list (pv 0)) (pg_name (i := 2) sc_law_well.nd rfl (Or.inl rfl))
           (pss_one (ps_set (i := 1) sc_law_well.nd rfl (Or.inl rfl) (pe_op op_add (pe_op op_mod (pe_op op_powB (pe_op op_add (pe_op op_mul (pv 1) pe_int) (pv 2)) pe_int) pe_int) pe_int))))
          (pss_one (ps_ret (pe_lst (pa_cons (pe_lc (own := [("cell", 2)]) (g := gName 2) (tt := tYes) rfl sc_law_well.nd (pi_list (pv 0)) (blkOk_by (N := ["script", "seed", "cell"]) (sc := defScope s_law_well) (by decide +kernel)) (fun _ _ _ _ _ => (pg_name (i := 2) sc_law_well.nd rfl (Or.inl rfl))) (fun _ _ _ _ _ => pts_nil) (fun _ _ _ _ _ => (pe_callB call_abs (by rfl) T.b_abs (by decide +kernel) (pa_cons (pv 2) pa_nil)))) (pa_cons pe_int (pa_cons (pv 1) pa_nil)))))))), ?_⟩
    refine ⟨_, rfl, a, rfl, ⟨_, hS⟩, for_list (K := K) (a := a) (xs := ns.map V.int) (fun i σ H' => H' = H ∧ ∃ (seed : Int) (t2 : Option V), σ = [some (.ref a), some (.int seed), t2] ∧ 0 ≤ seed ∧ seed < 2 ^ 40) ⟨rfl, 1, _, rfl, by decide, by decide⟩ (fun i σ H' _ h => by rw [h.1]; exact hS) ?_ ?_⟩
    · rintro i x σ H' hx ⟨rfl, seed, t2, rfl, h0, h1⟩
      rw [List.getElem?_map] at hx
      cases e : ns[i]? with
      | none => rw [e] at hx; cases hx
      | some z =>
        rw [e] at hx
        cases hx
        have hz := hb z (List.mem_of_getElem? e)
        refine ⟨_, rfl, _, _, rfl, rfl, .inl ⟨by omega, by omega⟩, _, rfl, _, _, rfl, rfl, _, _, rfl, rfl, ⟨by decide, bits_sum h0 h1 hz⟩, _, _, rfl, rfl, (by show (0 : Int) < 2147483629; decide), _, _, rfl, rfl, ?_⟩
        have m0 := Int.emod_nonneg ((seed * 50021 + z) ^ (3 : Int).toNat) (show (2147483629 : Int) ≠ 0 by decide)
        have m1 := Int.emod_lt_of_pos ((seed * 50021 + z) ^ (3 : Int).toNat) (show (0 : Int) < 2147483629 by decide)
        generalize (seed * 50021 + z) ^ (3 : Int).toNat % 2147483629 = m at m0 m1
        exact ⟨rfl, _, _, rfl, by omega, by omega⟩
    · rintro σ H' ⟨rfl, seed, t2, rfl, h0, h1⟩
      refine ⟨_, rfl, a, rfl, ⟨_, hS⟩, fun D nD => lc_list (K := K) (a := a) (xs := ns.map V.int) (fun i H2 => Same H' H2 ∧ H2 D = some (.lst (((ns.take i).map fun z => if z < 0 then -z else z).map V.int))) ⟨Same.new nD, upd_same⟩ (fun i H2 _ h => h.1.seq hS) ?_ ?_⟩
      · rintro i x H2 hx ⟨s2, e2⟩
        rw [List.getElem?_map] at hx
        cases e : ns[i]? with
        | none => rw [e] at hx; cases hx
        | some z =>
          rw [e] at hx
          cases hx
          refine ⟨rfl, yesC ?_⟩
          refine ⟨_, rfl, _, rfl, _, e2, ?_, ?_, ?_⟩
          · rw [List.length_map, List.length_map, List.length_take]
            exact Nat.lt_of_le_of_lt (Nat.min_le_left _ _) (Nat.lt_of_lt_of_le (Nat.lt_of_lt_of_le (List.getElem?_eq_some_iff.mp e).1 hlen) (by decide))
          · exact fun b o hb => by
              rw [upd_ne (ne_of_none (s2 b o hb |> fun _ => hb) nD)]
              exact s2 b o hb
          · rw [upd_same, List.take_succ, e, List.map_append, List.map_append]
            rfl
      · rintro H2 ⟨s2, e2⟩
        rw [List.length_map, List.take_length] at e2
        refine ⟨_, rfl, (by show 3 ≤ sizeLine; decide), fun p np => ?_⟩
        have pD : D ≠ p := ne_of_none e2 np
        refine q p D _ (s2.free np) nD (fun b o hb => ?_) ⟨_, 0, seed, upd_same, by rw [upd_ne pD]; exact e2, fun c hc => ?_, by rw [List.length_map]; exact hlen, by decide, h0, h1⟩
        · have hb2 := s2 b o hb
          rw [upd_ne (ne_of_none hb2 np)]
          exact hb2
        · obtain ⟨z, hz, rfl⟩ := List.mem_map.mp hc
          split <;> omega
theorem rp_ints {M : Hp} : ∀ ns : List Int, RpA M (ns.map V.int) (ns.map PyData.int)
  | [] => .nil
  | n :: ns => .cons (.int n) (rp_ints ns)
theorem ints_lay : ∀ ns : List Int, PyData.canLayAll0 (ns.map PyData.int) = true
  | [] => rfl
  | n :: ns => by
    show (PyData.canLay0 (.int n) && PyData.canLayAll0 (ns.map PyData.int)) = true
    rw [ints_lay ns]
    rfl
theorem ints_depth : ∀ ns : List Int, PyData.depthAll (ns.map PyData.int) = 0
  | [] => rfl
  | n :: ns => by
    have := ints_depth ns
    simp only [List.map_cons, PyData.depthAll, PyData.depth, this]
    rfl
theorem ints_shaped (ns : List Int) : SeqAt.shaped (.list (ns.map PyData.int)) = true := by
  unfold SeqAt.shaped
  have e : (PyData.list (ns.map PyData.int)).canLay0 = true := by
    simp only [PyData.canLay0]
    exact ints_lay ns
  rw [e, Bool.true_and]
  refine decide_eq_true ?_
  simp only [PyData.depth, ints_depth]
  decide
abbrev s_law_draw : Stmt := topS 4
theorem sc_law_draw : FnScope ["well", "many", "cell", "found"] ["well", "many"] (defScope s_law_draw) := ⟨rfl, rfl, rfl, by decide +kernel, rfl, by decide +kernel, by decide +kernel⟩
theorem ok_draw {f : Addr} {fd : FuncData} (F : Fun K "_law_draw" "_law_draw" s_law_draw f fd) (T : Txt mg) : FnOk P w K mg base CX0 1 f fd ["well", "many"] spDraw := by
  refine F.ok sc_law_draw (fun vs H Q E h => ?_) (fun cdv A outer s H vs Q E hr h => ?_)
  · obtain ⟨p, l, many, rfl, _⟩ := h
    rfl
  · obtain ⟨p, l, many, rfl, ⟨cells, cur, seed, hp, hl, hc, hlen, h1, h2, h3⟩, hm1, hm2, k⟩ := h
    have m0 : (0 : Int) < many := by omega
    have mw : ∀ x : Int, CDivW x many := fun x => wide_div m0 (b := 300) (by omega) (by decide) (by decide)
    have npl : p ≠ l := We.ne ⟨cells, cur, seed, hp, hl, hc, hlen, h1, h2, h3⟩
    refine ⟨_, (C8.pss_cut (ps_if (PW.pt (pw_and (pt_cmpR op_eq (pe_ix (r := rIxL K) ix_list (pv 0) pe_int (fun _ _ => rfl)) pe_int (nomark _)) (pw_and1 (pt_cmpR (op_neD hr.units) (pe_ix (r := rIxL K) ix_list (pv 0) pe_int (fun _ _ => rfl)) (pe_lst pa_nil) (nomark _))))) (pss_cons (ps_set (i := 2) sc_law_draw.nd rfl (Or.inl rfl) (pe_bm PySem.F.plainAttrs_list PySem.F.slot_list_pop PySem.F.type_list_pop mt_popAt (pe_ix (r := rIxL K) ix_list (pv 0) pe_int (fun _ _ => rfl)) (pa_cons pe_int pa_nil)))
            (pss_cons (ps_if (pt_cmpR op_lt (pv 2) (pe_op op_pow pe_int pe_int) (nomark _)) (pss_one (ps_ret (pe_op op_mod (pv 2) (pv 1)))) pss_nil)
            (pss_one (ps_asg (pv 2) (pg_sub (pv 0) pe_int set_list))))) pss_nil)
          (pss_cons (ps_if (pt_cmpR op_gt (pe_ix (r := rIxL K) ix_list (pv 0) pe_int (fun _ _ => rfl)) pe_int (nomark _)) (pss_cons (ps_set (i := 3) sc_law_draw.nd rfl (Or.inl rfl) (pe_op op_mod (pe_ix (r := rIxL K) ix_list (pv 0) pe_int (fun _ _ => rfl)) (pv 1)))
            (pss_cons (ps_asg (pe_op op_fdivW (pe_ix (r := rIxL K) ix_list (pv 0) pe_int (fun _ _ => rfl)) (pv 1)) (pg_sub (pv 0) pe_int set_list))
            (pss_one (ps_ret (pv 3))))) pss_nil)
          (pss_cons (ps_asg (pe_op op_mod (pe_op op_add (pe_op op_mul (pe_ix (r := rIxL K) ix_list (pv 0) pe_int (fun _ _ => rfl)) pe_int) pe_int) pe_int) (pg_sub (pv 0) pe_int set_list))
          (pss_one (ps_ret (pe_op op_mod (pe_op op_fdivW (pe_op op_mod (pe_op op_pow (pe_op op_mod (pe_op op_pow (pe_ix (r := rIxL K) ix_list (pv 0) pe_int (fun _ _ => rfl)) pe_int) pe_int) pe_int) pe_int) pe_int) (pv 1))))))), ?_⟩
    refine ⟨fun σ H' => ∃ (t2 t3 : Option V) (cur' : Int) (cells' : List Int), σ = [some (.ref p), some (.int many), t2, t3] ∧ H' p = some (.lst [.ref l, .int cur', .int seed]) ∧ H' l = some (.lst (cells'.map V.int)) ∧ (∀ c ∈ cells', 0 ≤ c) ∧ cells'.length ≤ 63 ∧ 0 ≤ cur' ∧ Keep2 p l H H', ?_, ?_⟩
    · have nx : ∀ H', (∀ b o, H b = some o → H' b = some o) → ∃ (t2 t3 : Option V) (cur' : Int) (cells' : List Int), L2.start ["well", "many", "cell", "found"] [.ref p, .int many] = [some (.ref p), some (.int many), t2, t3] ∧ H' p = some (.lst [.ref l, .int cur', .int seed]) ∧ H' l = some (.lst (cells'.map V.int)) ∧ (∀ c ∈ cells', 0 ≤ c) ∧ cells'.length ≤ 63 ∧ 0 ≤ cur' ∧ Keep2 p l H H' := fun H' s =>
        ⟨none, none, cur, cells, rfl, s _ _ hp, s _ _ hl, hc, hlen, h1, fun b o _ _ h => s b o h⟩
      refine ⟨_, rfl, p, _, _, _, rfl, rfl, SqL.of hp, rfl, rfl, _, rfl, ite2 (fun cz => ?_) (fun cz => ?_)⟩
      · refine ⟨_, rfl, p, _, _, _, rfl, rfl, SqL.of hp, rfl, (by show 0 ≤ sizeLine; decide), fun q nq => ?_⟩
        have s2 : ∀ b o, H b = some o → upd H q (.lst []) b = some o := fun b o h => by rw [upd_ne (ne_of_none h nq)]; exact h
        refine ⟨.list (cells.map PyData.int), .list [], (Rp.lst (s2 _ _ hl) (rp_ints cells)).dp, (Rp.lst upd_same .nil).dp, ints_shaped cells, ints_shaped [], _, rfl, ite2 (fun c2 => ?_) (fun c2 => ?_)⟩
        · cases cells with
          | nil => cases c2
          | cons c cs =>
            have c0 : cur = 0 := by
              have := of_decide_eq_true cz
              injection this
            obtain ⟨H1, e1⟩ : ∃ H1, H1 = upd H q (.lst []) := ⟨_, rfl⟩
            have p1 := s2 _ _ hp
            have l1 := s2 _ _ hl
            have k1 : ∀ b o, H b = some o → H1 b = some o := by rw [e1]; exact s2
            rw [← e1] at p1 l1
            show tSeq _ _ _ _ (upd H q (.lst []))
            rw [← e1]
            clear e1 s2 c2
            refine ⟨_, rfl, p, _, _, _, rfl, rfl, SqL.of p1, rfl, .inl ⟨rfl, _, SqL.of l1⟩, l, _, 0, 0, .int c, rfl, rfl, l1, by decide, by decide, by simp [seqIndex?], rfl, ?_⟩
            obtain ⟨H2, e2⟩ : ∃ H2, H2 = upd H1 l (.lst (cs.map V.int)) := ⟨_, rfl⟩
            have p2 : H2 p = some (.lst [.ref l, .int cur, .int seed]) := by rw [e2, upd_ne npl]; exact p1
            have l2 : H2 l = some (.lst (cs.map V.int)) := by rw [e2]; exact upd_same
            have k2 : Keep2 p l H H2 := fun b o n1 n2 hb => by rw [e2, upd_ne n2]; exact k1 b o hb
            show tSeq _ _ _ _ (upd H1 l (.lst (cs.map V.int)))
            rw [← e2]
            clear e2
            have hc0 := hc c List.mem_cons_self
            have hcs : ∀ x ∈ cs, 0 ≤ x := fun x hx => hc x (List.mem_cons_of_mem _ hx)
            have hln : cs.length ≤ 63 := by simp only [List.length_cons] at hlen; omega
            refine ⟨_, rfl, _, _, rfl, rfl, ⟨by decide, by decide, by decide⟩, _, _, rfl, rfl, _, rfl, ite2 (fun d => ?_) (fun d => ?_)⟩
            · refine ⟨_, rfl, _, rfl, _, _, rfl, rfl, m0, ?_⟩
              exact k _ _ (Int.emod_nonneg _ (by omega)) (Int.emod_lt_of_pos _ m0) ⟨cs, cur, seed, p2, l2, hcs, hln, h1, h2, h3⟩ k2
            · refine ⟨_, rfl, _, rfl, p, _, _, 1, rfl, rfl, p2, rfl, ?_⟩
              refine ⟨some (.int c), none, c, cs, rfl, upd_same, by rw [upd_ne npl.symm]; exact l2, hcs, hln, hc0, fun b o n1 n2 hb => ?_⟩
              rw [upd_ne n1]
              exact k2 b o n1 n2 hb
        · exact nx _ s2
      · exact nx _ fun _ _ h => h
    · rintro σ H1 ⟨t2, t3, cur', cells', rfl, p1, l1, c1, ln1, u1, kk⟩
      refine ⟨_, rfl, p, _, _, _, rfl, rfl, SqL.of p1, rfl, _, _, rfl, rfl, _, rfl, ite2 (fun c => ?_) (fun c => ?_)⟩
      · refine ⟨_, rfl, p, _, _, _, rfl, rfl, SqL.of p1, rfl, _, rfl, _, _, rfl, rfl, m0, ?_⟩
        refine ⟨_, rfl, p, _, _, _, rfl, rfl, SqL.of p1, rfl, _, rfl, _, _, rfl, rfl, mw _, _, rfl, p, _, _, 1, rfl, rfl, p1, rfl, ?_⟩
        refine ⟨_, rfl, ?_⟩
        refine k _ _ (Int.emod_nonneg _ (by omega)) (Int.emod_lt_of_pos _ m0) ⟨cells', cur' / many, seed, upd_same, by rw [upd_ne npl.symm]; exact l1, c1, ln1, Int.ediv_nonneg u1 (by omega), h2, h3⟩ (fun b o n1 n2 hb => ?_)
        rw [upd_ne n1]
        exact kk b o n1 n2 hb
      · refine ⟨_, rfl, p, _, _, _, rfl, rfl, SqL.of p1, rfl, _, _, rfl, rfl, .inl ⟨by omega, by omega⟩, _, _, rfl, rfl, _, _, rfl, rfl, (by show (0 : Int) < 2147483647; decide), _, rfl, p, _, _, 2, rfl, rfl, p1, rfl, ?_⟩
        obtain ⟨s1, es⟩ : ∃ s1, s1 = (seed * 48271 + 12345) % 2147483647 := ⟨_, rfl⟩
        have s10 : 0 ≤ s1 ∧ s1 < 2147483647 := by omega
        obtain ⟨H2, e2⟩ : ∃ H2, H2 = upd H1 p (.lst [.ref l, .int cur', .int s1]) := ⟨_, rfl⟩
        have p2 : H2 p = some (.lst [.ref l, .int cur', .int s1]) := by rw [e2]; exact upd_same
        have l2 : H2 l = some (.lst (cells'.map V.int)) := by rw [e2, upd_ne npl.symm]; exact l1
        have k2 : Keep2 p l H H2 := fun b o n1 n2 hb => by rw [e2, upd_ne n1]; exact kk b o n1 n2 hb
        have eh : (upd H1 p (HO.lst ([V.ref l, V.int cur', V.int seed].set 2 ((fun i j => V.int (i % j)) (seed * 48271 + 12345) 2147483647)))) = H2 := by
          rw [e2, es]
          rfl
        rw [eh]
        clear e2 es eh
        have a0 := Int.emod_nonneg (s1 ^ (3 : Int).toNat) (show (2147483629 : Int) ≠ 0 by decide)
        have a1 := Int.emod_lt_of_pos (s1 ^ (3 : Int).toNat) (show (0 : Int) < 2147483629 by decide)
        refine ⟨_, rfl, p, _, _, _, rfl, rfl, SqL.of p2, rfl, _, _, rfl, rfl, ⟨by decide, by decide, by show s1.natAbs < 2 ^ 64; omega⟩, _, _, rfl, rfl, (by show (0 : Int) < 2147483629; decide), _, _, rfl, rfl, ⟨by decide, by decide, ?_⟩, _, _, rfl, rfl, (by show (0 : Int) < 1000000007; decide), _, _, rfl, rfl, wide_div (b := 4) (by decide) (by decide) (by decide) (by decide), _, rfl, _, _, rfl, rfl, m0, ?_⟩
        · show (s1 ^ (3 : Int).toNat % 2147483629).natAbs < 2 ^ 64
          generalize s1 ^ (3 : Int).toNat % 2147483629 = x at a0 a1
          omega
        · exact k _ _ (Int.emod_nonneg _ (by omega)) (Int.emod_lt_of_pos _ m0) ⟨cells', cur', s1, p2, l2, c1, ln1, u1, s10.1, by omega⟩ k2
end

local macro_rules | `(tactic| walk_at "d") => `(tactic| first | refine Or.inl ⟨_, rfl, ?_⟩ | refine Or.inr ⟨rfl, ?_⟩ | refine ⟨Nat.le_of_ble_eq_true rfl, ?_⟩ | refine ⟨⟨_, rfl⟩, ?_⟩ | refine ⟨_, rfl, ?_⟩ | refine ⟨_, _, rfl, ?_⟩ | refine ⟨_, _, _, rfl, ?_⟩ | refine ⟨_, _, _, _, rfl, ?_⟩)
/-! ### a well's draws by data readings -/
def mDraw : DM := fun rs n Q => ∃ many : Int, rs = [.tape, .d (.int many)] ∧ Cnd (1 ≤ many ∧ many < 2 ^ 300) ∧ ∀ r, 0 ≤ r → r < many → Q (.d (.int r)) n
theorem L_draw : ∀ rs n Q, mDraw rs n Q → plainR rs ∧ rs.length = 2 := by
  rintro rs n Q ⟨m, rfl, h⟩
  exact tapeR (ds := [_]) rfl
theorem keep_fr {c : EC} {n m : Int} {H H' : Hp} {a l : Addr} (g : c.G n H) (e : c.t = .ref a) (el : c.u = .ref l) (k : Keep2 a l H H') (u : We H' a l) : Fr c m H H' := by
  obtain ⟨l', el', cells, cur, seed, hx, hy, _⟩ := g.1 a e
  rw [el] at el'
  cases el'
  refine ⟨fun b o p _ h => k b o (fun z => p (.inl (by rw [z]; exact e))) (fun z => p (.inr ⟨by rw [z]; exact el, a, e⟩)) h, fun a' e' => ?_, Tabs_mv g.2 fun b o ls _ h => k b o (fun z => ?_) (fun z => ?_) h⟩
  · rw [e] at e'
    cases e'
    exact ⟨l, el, u⟩
  · rw [z, hx] at h
    cases h
    exact ls _ rfl
  · rw [z, hy] at h
    cases h
    exact ls _ rfl
theorem ok_drawD {P : Program} {w : World} {K : PySem.W.Frag} {mg : Str → Option Value} {base : Heap} {f : Addr} {fd : FuncData} (F : Fun K "_law_draw" "_law_draw" s_law_draw f fd) (T : Txt mg) : FnOk P w K mg base CX0 1 f fd ["well", "many"] (spD mDraw) := by
  refine (ok_draw F T).imp fun vs H Q E ⟨c, n, rs, Q', h0, g, pn, ok, ⟨many, e, cc, hq⟩, kk⟩ => ?_
  subst e
  obtain ⟨hm0, hm1⟩ := cc.get
  cases ok with
  | cons h1 _ t => cases t with
    | cons h2 _ t =>
      cases t
      cases h2
      obtain ⟨e1, a, e2⟩ := h1
      rw [e1, e2]
      obtain ⟨l, el, hw⟩ := g.1 a e2
      exact ⟨a, l, many, rfl, hw, hm0, hm1, fun r H' r0 r1 u k => kk _ _ _ _ (hq r r0 r1) (keep_fr g e2 el k u) (Rp.int r)⟩

local macro_rules | `(tactic| walk_at "d") => `(tactic| first | refine Or.inl ⟨_, rfl, ?_⟩ | refine Or.inr ⟨rfl, ?_⟩ | refine ⟨Nat.le_of_ble_eq_true rfl, ?_⟩ | refine ⟨⟨_, rfl⟩, ?_⟩ | refine ⟨_, rfl, ?_⟩ | refine ⟨_, _, rfl, ?_⟩ | refine ⟨_, _, _, rfl, ?_⟩ | refine ⟨_, _, _, _, rfl, ?_⟩)
/-! ### over -/
section
variable {P : Program} {w : World} {K : PySem.W.Frag} {mg : Str → Option Value} {base : Heap}
def overM (holding buys sells reach : Int) : Bool := if decide (reach < holding + buys) = true then true else decide (reach < sells - holding)
def mOver : DM := fun rs n Q => ∃ h b s r : Int, rs = [.d (.int h), .d (.int b), .d (.int s), .d (.int r)] ∧ Q (.d (.bool (overM h b s r))) n
theorem L_over : ∀ rs n Q, mOver rs n Q → plainR rs ∧ rs.length = 4 := by
  rintro rs n Q ⟨h, b, s, r, rfl, _⟩
  exact plainOf_R (ds := [_, _, _, _]) rfl
abbrev s_over : Stmt := topS 1
theorem sc_over : FnScope ["holding", "buys", "sells", "reach"] ["holding", "buys", "sells", "reach"] (defScope s_over) := ⟨rfl, rfl, rfl, by decide +kernel, rfl, by decide +kernel, by decide +kernel⟩
theorem ok_over {f : Addr} {fd : FuncData} (F : Fun K "over" "over" s_over f fd) (T : Txt mg) : FnOk P w K mg base CX0 1 f fd ["holding", "buys", "sells", "reach"] (spD mOver) := by
  apply okD F sc_over L_over
  case body =>
    intro cdv A outer s H E hr
    exact (psOne (psRet (pdOr (pdCmp r2Gt op_gt (pdOp r2Add op_add (pdV (pv 0)) (pdV (pv 1))) (pdV (pv 3)) (nomark _)) (pe_one (pdCmp r2Gt op_gt (pdOp r2Sub op_sub (pdV (pv 2)) (pdV (pv 0))) (pdV (pv 3)) (nomark _))))))
  case data =>
    rintro rs n Q ⟨h, b, s, r, rfl, k⟩
    repeat walk_at "d"
    unfold overM at k
    refine ite2 (fun q => ?_) (fun q => ?_)
    · rw [if_pos q] at k
      exact k
    · rw [if_neg q] at k
      repeat walk_at "d"
      exact k
def spLaw (K : PySem.W.Frag) : Sp := fun vs H Q _ => ∃ (a : Addr) (ns : List Int), vs = [.ref a] ∧ SqL K H a (ns.map V.int) ∧ ns.length ≤ 63 ∧ (∀ z ∈ ns, Builtin.Int.intBits z ≤ 1048576) ∧ ∀ H', Q (.bl true) H'
abbrev s_law : Stmt := topS 5
theorem sc_law : FnScope ["script", "well", "turn", "great", "reach", "holding", "buys", "sells", "near", "way", "due", "found"] ["script"] (defScope s_law) := ⟨rfl, rfl, rfl, by decide +kernel, rfl, by decide +kernel, by decide +kernel⟩
theorem ok_law {f : Addr} {fd : FuncData} (F : Fun K "law" "law" s_law f fd) (T : Txt mg) (c_well : Cal P w K mg base 1 "_law_well" ["script"] (spWell K)) (c_draw : Cal P w K mg base 1 "_law_draw" ["well", "many"] (spD mDraw)) (c_over : Cal P w K mg base 1 "over" ["holding", "buys", "sells", "reach"] (spD mOver)) : FnOk P w K mg base CX0 2 f fd ["script"] (spLaw K) := by
  refine F.ok sc_law (fun vs H Q E h => ?_) (fun cdv A outer s H vs Q E hr h => ?_)
  · obtain ⟨a, ns, rfl, _⟩ := h
    rfl
  · obtain ⟨a, ns, rfl, hS, hlen, hb, k⟩ := h
    have hT : LamX.Tabs Tabz.T H := fun p hp => by cases hp
    obtain ⟨f_draw, fd_draw, G_draw, m_draw, k_draw, b_draw⟩ := c_draw
    obtain ⟨f_well, fd_well, G_well, m_well, k_well, b_well⟩ := c_well
    obtain ⟨f_over, fd_over, G_over, m_over, k_over, b_over⟩ := c_over
    refine ⟨_, (pss_cons (ps_set (i := 1) sc_law.nd rfl (Or.inl rfl) (pe_call G_well (hr.mono (by decide)) rfl m_well k_well b_well .nil pass0 (pa_cons (pv 0) pa_nil)))
          (psCons (psFor PassesOwn.never rfl (piRng (pi_range1 rfl T.b_range (paCons (pdC pe_int) paNil))) (pgN (pg_name (i := 2) sc_law.nd rfl (Or.inl rfl)))
           (psCons (psSet (i := 3) sc_law.nd rfl (Or.inl rfl) (pdIx r2IxL ix_list (pdLst (paCons (pdC pe_int) (paCons (pdC pe_int) (paCons (pdOp r2Pow op_pow (pdC pe_int) (pdC pe_int)) (paCons (pdOp r2Pow op_pow (pdC pe_int) (pdC pe_int)) paNil))))) (pdCall (fun _ _ _ q => (L_draw _ _ _ q).1) G_draw (hr.mono (by decide)) (by rfl) m_draw k_draw b_draw pass0 (paCons (pdV (pv 1)) (paCons (pdC pe_int) paNil))) (fun _ _ => rfl)))
            (psCons (psSet (i := 4) sc_law.nd rfl (Or.inl rfl) (pdCall (fun _ _ _ q => (L_draw _ _ _ q).1) G_draw (hr.mono (by decide)) (by rfl) m_draw k_draw b_draw pass0 (paCons (pdV (pv 1)) (paCons (pdV (pv 3)) paNil))))
            (psCons (psSet (i := 5) sc_law.nd rfl (Or.inl rfl) (pdOp r2Sub op_sub (pdCall (fun _ _ _ q => (L_draw _ _ _ q).1) G_draw (hr.mono (by decide)) (by rfl) m_draw k_draw b_draw pass0 (paCons (pdV (pv 1)) (paCons (pdOp r2Add op_add (pdOp r2Mul op_mulW (pdC pe_int) (pdV (pv 4))) (pdC pe_int)) paNil))) (pdV (pv 4))))
            (psCut (psIf (ptCmp r2Eq op_eq (pdCall (fun _ _ _ q => (L_draw _ _ _ q).1) G_draw (hr.mono (by decide)) (by rfl) m_draw k_draw b_draw pass0 (paCons (pdV (pv 1)) (paCons (pdC pe_int) paNil))) (pdC pe_int) (nomark _)) (psOne (psSet (i := 5) sc_law.nd rfl (Or.inl rfl) (pdOp r2Mul op_mulW (pdIx r2IxL ix_list (pdLst (paCons (pdC pe_int) (paCons (pdUn r1Neg un_neg (pdC pe_int)) paNil))) (pdCall (fun _ _ _ q => (L_draw _ _ _ q).1) G_draw (hr.mono (by decide)) (by rfl) m_draw k_draw b_draw pass0 (paCons (pdV (pv 1)) (paCons (pdC pe_int) paNil))) (fun _ _ => rfl)) (pdOp r2Add op_add (pdV (pv 4)) (pdCall (fun _ _ _ q => (L_draw _ _ _ q).1) G_draw (hr.mono (by decide)) (by rfl) m_draw k_draw b_draw pass0 (paCons (pdV (pv 1)) (paCons (pdC pe_int) paNil))))))) psNil)
            (psCons (psPar (ps_par (i := 6) (j := 7) (by rfl) sc_law.nd rfl rfl (by decide) rfl rfl (paCons (pdCall (fun _ _ _ q => (L_draw _ _ _ q).1) G_draw (hr.mono (by decide)) (by rfl) m_draw k_draw b_draw pass0 (paCons (pdV (pv 1)) (paCons (pdV (pv 3)) paNil))) (paCons (pdCall (fun _ _ _ q => (L_draw _ _ _ q).1) G_draw (hr.mono (by decide)) (by rfl) m_draw k_draw b_draw pass0 (paCons (pdV (pv 1)) (paCons (pdV (pv 3)) paNil))) paNil)) (by rfl)))
            (psCons (psSet (i := 8) sc_law.nd rfl (Or.inl rfl) (pdOp r2Sub op_sub (pdCall (fun _ _ _ q => (L_draw _ _ _ q).1) G_draw (hr.mono (by decide)) (by rfl) m_draw k_draw b_draw pass0 (paCons (pdV (pv 1)) (paCons (pdC pe_int) paNil))) (pdC pe_int)))
            (psCons (psSet (i := 9) sc_law.nd rfl (Or.inl rfl) (pdCall (fun _ _ _ q => (L_draw _ _ _ q).1) G_draw (hr.mono (by decide)) (by rfl) m_draw k_draw b_draw pass0 (paCons (pdV (pv 1)) (paCons (pdC pe_int) paNil))))
            (psCut (psIf (ptCmp r2Eq op_eq (pdV (pv 9)) (pdC pe_int) (nomark _)) (psCons (psSet (i := 6) sc_law.nd rfl (Or.inl rfl) (pdB rs2I (call_max2 rfl) (by rfl) T.b_max (by decide +kernel) (paCons (pdC pe_int) (paCons (pdOp r2Add op_add (pdOp r2Sub op_sub (pdV (pv 4)) (pdV (pv 5))) (pdV (pv 8))) paNil))))
              (psOne (psSet (i := 7) sc_law.nd rfl (Or.inl rfl) (pdCall (fun _ _ _ q => (L_draw _ _ _ q).1) G_draw (hr.mono (by decide)) (by rfl) m_draw k_draw b_draw pass0 (paCons (pdV (pv 1)) (paCons (pdB rs2I (call_max2 rfl) (by rfl) T.b_max (by decide +kernel) (paCons (pdC pe_int) (paCons (pdOp r2Add op_add (pdOp r2Add op_add (pdV (pv 4)) (pdV (pv 5))) (pdC pe_int)) paNil))) paNil)))))) psNil)
            (psCut (psIf (ptCmp r2Eq op_eq (pdV (pv 9)) (pdC pe_int) (nomark _)) (psCons (psSet (i := 7) sc_law.nd rfl (Or.inl rfl) (pdB rs2I (call_max2 rfl) (by rfl) T.b_max (by decide +kernel) (paCons (pdC pe_int) (paCons (pdOp r2Add op_add (pdOp r2Add op_add (pdV (pv 4)) (pdV (pv 5))) (pdV (pv 8))) paNil))))
              (psOne (psSet (i := 6) sc_law.nd rfl (Or.inl rfl) (pdCall (fun _ _ _ q => (L_draw _ _ _ q).1) G_draw (hr.mono (by decide)) (by rfl) m_draw k_draw b_draw pass0 (paCons (pdV (pv 1)) (paCons (pdB rs2I (call_max2 rfl) (by rfl) T.b_max (by decide +kernel) (paCons (pdC pe_int) (paCons (pdOp r2Add op_add (pdOp r2Sub op_sub (pdV (pv 4)) (pdV (pv 5))) (pdC pe_int)) paNil))) paNil)))))) psNil)
            (psCut (psIf (ptCmp r2Eq op_eq (pdV (pv 9)) (pdC pe_int) (nomark _)) (psOne (psPar (ps_par (i := 6) (j := 7) (by rfl) sc_law.nd rfl rfl (by decide) rfl rfl (paCons (pdB rs2I (call_max2 rfl) (by rfl) T.b_max (by decide +kernel) (paCons (pdC pe_int) (paCons (pdOp r2Add op_add (pdOp r2Sub op_sub (pdV (pv 4)) (pdV (pv 5))) (pdV (pv 8))) paNil))) (paCons (pdB rs2I (call_max2 rfl) (by rfl) T.b_max (by decide +kernel) (paCons (pdC pe_int) (paCons (pdOp r2Sub op_sub (pdOp r2Add op_add (pdOp r2Add op_add (pdV (pv 4)) (pdV (pv 5))) (pdCall (fun _ _ _ q => (L_draw _ _ _ q).1) G_draw (hr.mono (by decide)) (by rfl) m_draw k_draw b_draw pass0 (paCons (pdV (pv 1)) (paCons (pdC pe_int) paNil)))) (pdC pe_int)) paNil))) paNil)) (by rfl)))) psNil)
            (psCons (psSet (i := 10) sc_law.nd rfl (Or.inl rfl) (pdOr (pdCmp r2Gt op_gt (pdOp r2Add op_add (pdV (pv 5)) (pdV (pv 6))) (pdV (pv 4)) (nomark _)) (pe_one (pdCmp r2Gt op_gt (pdOp r2Sub op_sub (pdV (pv 7)) (pdV (pv 5))) (pdV (pv 4)) (nomark _)))))
            (psCons (psSet (i := 11) sc_law.nd rfl (Or.inl rfl) (pdCall (fun _ _ _ q => (L_over _ _ _ q).1) G_over (hr.mono (by decide)) (by rfl) m_over k_over b_over pass0 (paCons (pdV (pv 5)) (paCons (pdV (pv 6)) (paCons (pdV (pv 7)) (paCons (pdV (pv 4)) paNil))))))
            (psOne (psIf (PW.pt (pwOr (ptNot (ptVal (pdIsi (T := "bool") (by unfold isiOk; decide) T.b_isinstance rfl (pe_bltn (v := .ty "bool") (by rfl) T.b_bool (by decide +kernel) rfl) (pdV (pv 11))))) (pwOr1 (ptCmp r2Ne op_ne (pdV (pv 11)) (pdV (pv 10)) (nomark _))))) (psOne (psRet (pdC pe_bl))) psNil)))))))))))))))
          (psOne (psRet (pdC pe_bl))))), ?_⟩
    refine ⟨_, rfl, a, ns, rfl, hS, hlen, hb, fun p l H2 np nl s2 u2 => ?_⟩
    have u3 := u2
    obtain ⟨cells, cur, seed, hxp, hxl, _⟩ := u3
    refine ⟨{ H0 := H2, B := fun b => b = p ∨ b = l, t := .ref p, u := .ref l, pins := [], PB := fun b e => (by
        rcases e with e | ⟨e, _⟩
        · cases e; exact .inl rfl
        · cases e; exact .inr rfl), Bs := fun b e => (by
        rcases e with e | e
        · rw [e]; exact ⟨_, hxp, fun ps z => by cases z⟩
        · rw [e]; exact ⟨_, hxl, fun ps z => by cases z⟩) }, fun _ => none, 0, [.raw (.ref a), .tape, .un, .un, .un, .un, .un, .un, .un, .un, .un, .un], { nx := fun _ _ => False, rt := fun r _ => r = .d (.bool true) }, ?env, ?data, ?link⟩
    case env =>
      refine ⟨fun b o _ _ e => e, ⟨fun b e => by cases e; exact ⟨l, rfl, u2⟩, fun q hq => by cases hq⟩, fun i a e => (by cases e), fun i a e => (by cases e), fun i j a e => (by cases e), fun i x e => ?_, rfl, fun q hq => (by cases hq), ⟨0, fun _ _ => rfl⟩, fun i a x e => (by cases e)⟩
      match i, e with
      | 0, e => cases e; exact rfl
      | 1, e => cases e; exact ⟨rfl, p, rfl⟩
      | i + 2, e =>
        have e' : (List.replicate 10 DV.un)[i]? = some x := e
        rw [List.getElem?_replicate] at e'
        split at e'
        · cases e'; exact True.intro
        · cases e'
    case link =>
      refine ⟨fun A n σ H' ρ h => h.elim, fun v r n H' h f o => ?_, fun A n σ H' ρ h => h.elim, fun A n σ H' ρ h => h.elim⟩
      have h : r = .d (.bool true) := h
      subst h
      cases o
      exact k H'
    case data =>
      repeat walk_at "d"
      refine ⟨by decide, by decide, ?_⟩
      refine ⟨fun i ρ m => ∃ j2 j3 j4 j5 j6 j7 j8 j9 j10 j11 : DV, ρ = [.raw (.ref a), .tape, j2, j3, j4, j5, j6, j7, j8, j9, j10, j11], ⟨_, _, _, _, _, _, _, _, _, _, rfl⟩, ?_, ?_⟩
      · rintro i d ρ m hd ⟨j2, j3, j4, j5, j6, j7, j8, j9, j10, j11, rfl⟩
        repeat walk_at "d"
        refine ⟨cnd ⟨by decide, by decide⟩, fun r1 r1a r1b => ?_⟩
        obtain ⟨g, eg, g1, g2⟩ : ∃ g : Int, opIxL (.list [.int 5, .int 1000, .int (10 ^ (12 : Int).toNat), .int (10 ^ (30 : Int).toNat)]) (.int r1) = some (.d (.int g)) ∧ 1 ≤ g ∧ g < 2 ^ 110 := by
          rcases ix4 (a := .int 5) (b := .int 1000) (c := .int (10 ^ (12 : Int).toNat)) (d := .int (10 ^ (30 : Int).toNat)) r1a r1b with e | e | e | e
          · exact ⟨_, e, by decide, by decide⟩
          · exact ⟨_, e, by decide, by decide⟩
          · exact ⟨_, e, by decide, by decide⟩
          · exact ⟨_, e, by decide, by decide⟩
        repeat walk_at "d"
        refine ⟨_, eg, ?_⟩
        repeat walk_at "d"
        have g300 : (2 : Int) ^ 110 < 2 ^ 300 := by decide
        refine ⟨cnd ⟨g1, Int.lt_trans g2 g300⟩, fun rc ra rb => ?_⟩
        repeat walk_at "d"
        refine ⟨_, if_pos (decide_eq_true (mul_big (by decide) (by have : (2 : Nat) ^ 110 < 2 ^ 400 := by decide
                                                                   omega))), ?_⟩
        repeat walk_at "d"
        refine ⟨cnd ⟨by omega, by have : (2 : Int) ^ 112 < 2 ^ 300 := by decide
                                  omega⟩, fun h0 h0a h0b => ?_⟩
        repeat walk_at "d"
        refine ⟨fun ρ _ => ∃ (h : Int) (j6 j7 j8 j9 j10 j11 : DV), ρ = [.raw (.ref a), .tape, .d d, .d (.int g), .d (.int rc), .d (.int h), j6, j7, j8, j9, j10, j11] ∧ -(2 ^ 112) < h ∧ h < 2 ^ 112, ?_, ?_⟩
        · repeat walk_at "d"
          refine ⟨cnd ⟨by decide, by decide⟩, fun r2 r2a r2b => ?_⟩
          repeat walk_at "d"
          refine ite2 (fun q => ?_) (fun q => ?_)
          · repeat walk_at "d"
            refine ⟨cnd ⟨by decide, by decide⟩, fun r3 r3a r3b => ?_⟩
            obtain ⟨sg, esg, sg1⟩ : ∃ sg : Int, opIxL (.list [.int 1, .int (-1)]) (.int r3) = some (.d (.int sg)) ∧ (sg = 1 ∨ sg = -1) := by
              rcases ix2 (a := .int 1) (b := .int (-1)) r3a r3b with e | e
              · exact ⟨_, e, .inl rfl⟩
              · exact ⟨_, e, .inr rfl⟩
            repeat walk_at "d"
            refine ⟨_, esg, ?_⟩
            repeat walk_at "d"
            refine ⟨cnd ⟨by decide, by decide⟩, fun r4 r4a r4b => ?_⟩
            repeat walk_at "d"
            have n400 : (2 : Nat) ^ 113 < 2 ^ 400 := by decide
            refine ⟨_, if_pos (decide_eq_true (mul_big (by rcases sg1 with e | e <;> rw [e] <;> decide) (by omega))), ?_⟩
            have e : sg * (rc + r4) = rc + r4 ∨ sg * (rc + r4) = -(rc + r4) := by
              rcases sg1 with e | e <;> rw [e]
              · exact .inl (Int.one_mul _)
              · exact .inr (by rw [Int.neg_mul, Int.one_mul])
            exact ⟨by show 5 < 12; omega, _, _, _, _, _, _, _, rfl, by rcases e with e | e <;> rw [e] <;> omega, by rcases e with e | e <;> rw [e] <;> omega⟩
          · exact ⟨_, _, _, _, _, _, _, rfl, by omega, by omega⟩
        · rintro ρ m ⟨h, j6, j7, j8, j9, j10, j11, rfl, hha, hhb⟩
          have n300 : (2 : Int) ^ 114 < 2 ^ 300 := by decide
          repeat walk_at "d"
          refine ⟨cnd ⟨g1, Int.lt_trans g2 g300⟩, fun b0 _ _ => ?_⟩
          repeat walk_at "d"
          refine ⟨cnd ⟨g1, Int.lt_trans g2 g300⟩, fun s0 _ _ => ?_⟩
          repeat walk_at "d"
          refine ⟨cnd ⟨by decide, by decide⟩, fun nr nra nrb => ?_⟩
          repeat walk_at "d"
          refine ⟨cnd ⟨by decide, by decide⟩, fun wy wya wyb => ?_⟩
          repeat walk_at "d"
          refine ⟨fun ρ _ => ∃ (b s : Int) (j10 j11 : DV), ρ = [.raw (.ref a), .tape, .d d, .d (.int g), .d (.int rc), .d (.int h), .d (.int b), .d (.int s), .d (.int (nr - 1)), .d (.int wy), j10, j11], ?_, ?_⟩
          · repeat walk_at "d"
            refine ite2 (fun q => ?_) (fun q => ?_)
            · repeat walk_at "d"
              refine ⟨cnd ⟨by dsimp only; split <;> omega, by dsimp only; split <;> omega⟩, fun s1 _ _ => ?_⟩
              exact ⟨by show 7 < 12; omega, _, _, _, _, rfl⟩
            · exact ⟨_, _, _, _, rfl⟩
          rintro ρ m ⟨b1, s1, j10, j11, rfl⟩
          refine ⟨fun ρ _ => ∃ (b s : Int) (j10 j11 : DV), ρ = [.raw (.ref a), .tape, .d d, .d (.int g), .d (.int rc), .d (.int h), .d (.int b), .d (.int s), .d (.int (nr - 1)), .d (.int wy), j10, j11], ?_, ?_⟩
          · repeat walk_at "d"
            refine ite2 (fun q => ?_) (fun q => ?_)
            · repeat walk_at "d"
              refine ⟨cnd ⟨by dsimp only; split <;> omega, by dsimp only; split <;> omega⟩, fun s1 _ _ => ?_⟩
              exact ⟨by show 6 < 12; omega, _, _, _, _, rfl⟩
            · exact ⟨_, _, _, _, rfl⟩
          rintro ρ m ⟨b2, s2, j10, j11, rfl⟩
          refine ⟨fun ρ _ => ∃ (b s : Int) (j10 j11 : DV), ρ = [.raw (.ref a), .tape, .d d, .d (.int g), .d (.int rc), .d (.int h), .d (.int b), .d (.int s), .d (.int (nr - 1)), .d (.int wy), j10, j11], ?_, ?_⟩
          · repeat walk_at "d"
            refine ite2 (fun q => ?_) (fun q => ?_)
            · repeat walk_at "d"
              refine ⟨cnd ⟨by decide, by decide⟩, fun s1 _ _ => ?_⟩
              repeat walk_at "d"
              exact ⟨_, _, _, _, rfl⟩
            · exact ⟨_, _, _, _, rfl⟩
          rintro ρ m ⟨b, s, j10, j11, rfl⟩
          repeat walk_at "d"
          refine ite2 (fun q => ?_) (fun q => ?_)
          · have e : overM h b s rc = true := if_pos q
            repeat walk_at "d"
            refine ite2 (fun q2 => ?_) (fun _ => ⟨_, _, _, _, _, _, _, _, _, _, rfl⟩)
            rw [e] at q2
            exact absurd q2 (by decide)
          · have e : overM h b s rc = decide (rc < s - h) := if_neg q
            repeat walk_at "d"
            refine ite2 (fun q2 => ?_) (fun _ => ⟨_, _, _, _, _, _, _, _, _, _, rfl⟩)
            rw [e] at q2
            have q3 : (!decide (decide (rc < s - h) = decide (rc < s - h))) = true := q2
            rw [decide_eq_true rfl] at q3
            cases q3
      · rintro ρ m ⟨j2, j3, j4, j5, j6, j7, j8, j9, j10, j11, rfl⟩
        repeat walk_at "d"
        rfl
end

/-! ### what the top has written, the end -/
theorem all_mk {l : PySem.W.OpenLaw} {w : World} {K : PySem.W.Frag} {h : Heap} {mg : Str → Option Value} {fa f1 f2 f3 f4 : Addr} (X : K.In h) (G : h.Ns mainGlobals mg) (hfa : mg "law" = some (.ref fa))
    {od1 an1 od2 an2 od3 an3 od4 an4 : Option Addr} {sl1 sl2 sl3 sl4 : Array (Option Value)} {oc1 kV1 dc1 pm1 cd1 ct1 oc2 kV2 dc2 pm2 cd2 ct2 oc3 kV3 dc3 pm3 cd3 ct3 oc4 kV4 dc4 pm4 cd4 ct4 : Value}
    (a1 : PySem.W.nsIn K mainGlobals "_law_well" = some (some (.ref f1))) (l1 : K.lookup f1 = some ⟨oc1, od1, .func (PySem.W.fnOf "_law_well" "_law_well" (defArgs s_law_well) (defBody s_law_well) (defScope s_law_well) .none kV1 dc1 pm1 an1 cd1 ct1), sl1⟩) (c1 : PySem.W.codeIn K cd1 "_law_well" = true) (k1 : PySem.W.keepIn K (.ref f1) = true)
    (a2 : PySem.W.nsIn K mainGlobals "_law_draw" = some (some (.ref f2))) (l2 : K.lookup f2 = some ⟨oc2, od2, .func (PySem.W.fnOf "_law_draw" "_law_draw" (defArgs s_law_draw) (defBody s_law_draw) (defScope s_law_draw) .none kV2 dc2 pm2 an2 cd2 ct2), sl2⟩) (c2 : PySem.W.codeIn K cd2 "_law_draw" = true) (k2 : PySem.W.keepIn K (.ref f2) = true)
    (a3 : PySem.W.nsIn K mainGlobals "over" = some (some (.ref f3))) (l3 : K.lookup f3 = some ⟨oc3, od3, .func (PySem.W.fnOf "over" "over" (defArgs s_over) (defBody s_over) (defScope s_over) .none kV3 dc3 pm3 an3 cd3 ct3), sl3⟩) (c3 : PySem.W.codeIn K cd3 "over" = true) (k3 : PySem.W.keepIn K (.ref f3) = true)
    (a4 : PySem.W.nsIn K mainGlobals "law" = some (some (.ref f4))) (l4 : K.lookup f4 = some ⟨oc4, od4, .func (PySem.W.fnOf "law" "law" (defArgs s_law) (defBody s_law) (defScope s_law) .none kV4 dc4 pm4 an4 cd4 ct4), sl4⟩) (c4 : PySem.W.codeIn K cd4 "law" = true) (k4 : PySem.W.keepIn K (.ref f4) = true)
    (z0 : PySem.W.nsIn K mainGlobals "len" = some none)
    (z1 : PySem.W.nsIn K mainGlobals "max" = some none)
    (z2 : PySem.W.nsIn K mainGlobals "min" = some none)
    (z3 : PySem.W.nsIn K mainGlobals "range" = some none)
    (z4 : PySem.W.nsIn K mainGlobals "isinstance" = some none)
    (z5 : PySem.W.nsIn K mainGlobals "abs" = some none)
    (z6 : PySem.W.nsIn K mainGlobals "bool" = some none)
    : ∃ fd : FuncData, (∀ (s : Shared) (v : Value), BindsTo s fd ⟨[v], []⟩ [("script", v)]) ∧ ∀ base : Heap, K.In base → base.Ns mainGlobals mg → FnOk l.prog w K mg base CX0 2 fa fd ["script"] (spLaw K) := by
  have e := hfa.symm.trans (PySem.W.mg_of X G a4)
  cases e
  have T : Txt mg := ⟨PySem.W.mg_none_of X G z0, PySem.W.mg_none_of X G z1, PySem.W.mg_none_of X G z2, PySem.W.mg_none_of X G z3, PySem.W.mg_none_of X G z4, PySem.W.mg_none_of X G z5, PySem.W.mg_none_of X G z6⟩
  have F1 := fun_mk (st := s_law_well) l1 c1 k1
  have b1 := F1.binds (ps := ["script"]) fun _ _ _ _ _ _ us hl => match us, hl with | [_], _ => rfl
  have F2 := fun_mk (st := s_law_draw) l2 c2 k2
  have b2 := F2.binds (ps := ["well", "many"]) fun _ _ _ _ _ _ us hl => match us, hl with | [_, _], _ => rfl
  have F3 := fun_mk (st := s_over) l3 c3 k3
  have b3 := F3.binds (ps := ["holding", "buys", "sells", "reach"]) fun _ _ _ _ _ _ us hl => match us, hl with | [_, _, _, _], _ => rfl
  have F4 := fun_mk (st := s_law) l4 c4 k4
  refine ⟨PySem.W.fnOf "law" "law" (defArgs s_law) (defBody s_law) (defScope s_law) .none kV4 dc4 pm4 an4 cd4 ct4, fun s v => .of_eq rfl, fun base _ _ => ?_⟩
  have C1 : Cal l.prog w K mg base 1 "_law_well" ["script"] (spWell K) := ⟨f1, _, ok_well F1 T, PySem.W.mg_of X G a1, k1, b1⟩
  have C2 : Cal l.prog w K mg base 1 "_law_draw" ["well", "many"] (spD mDraw) := ⟨f2, _, ok_drawD F2 T, PySem.W.mg_of X G a2, k2, b2⟩
  have C3 : Cal l.prog w K mg base 1 "over" ["holding", "buys", "sells", "reach"] (spD mOver) := ⟨f3, _, ok_over F3 T, PySem.W.mg_of X G a3, k3, b3⟩
  exact ok_law F4 T C1 C2 C3
theorem walk {l : PySem.W.OpenLaw} {q : Program} {loose : List Str} {XP : (Str → Option Value) → Heap → Prop} {YP : World → Heap → Prop} {d : DefRec} {K : Params → PySem.W.Frag} (hn : l.most = some 63) (hdf : d.params.defaults = [])
    (hY : ∀ (w : World) (h : Heap), YP w h → (K w.params).In h)
    (F : ∀ (w : World) (mg : Str → Option Value) (fa : Addr) (h : Heap), (K w.params).In h → h.Ns mainGlobals mg → mg d.name = some (.ref fa) →
      ∃ fd : FuncData, (∀ (s : Shared) (u : Value), BindsTo s fd ⟨[u], []⟩ [("script", u)]) ∧ ∀ base : Heap, (K w.params).In base → base.Ns mainGlobals mg → FnOk l.prog w (K w.params) mg base CX0 2 fa fd ["script"] (spLaw (K w.params))) :
    PySem.W.WalkO q loose XP YP l.row.toRowW d [] (fun f vs => PySem.call f vs) :=
  L2.walk_ofB (n := 63) (k := 2) (x := "script") (CX := fun _ => CX0) (sp := fun w => spLaw (K w.params)) hn (by decide) hdf ⟨rfl, by decide, by decide⟩ hY F (fun _ _ a ns hl hb _ hS => ⟨a, ns, rfl, hS, hl, hb, fun _ => rfl⟩) fun _ _ _ _ _ z => z
end Rh
open PySem PySem.W PyProof.Rows
set_option maxRecDepth 100000 in
set_option maxHeartbeats 0 in
theorem PySem.Challenge.cw_ringhall_k38_over_the_reach_holds : PySem.Challenge.rw_ringhall_k38_over_the_reach.Holds := by
  w_on; o_law; k_head; (case hw => w_witness2)
  k_fill
  refine Rh.walk (l := PySem.Challenge.rw_ringhall_k38_over_the_reach) rfl rfl (fun w h Y => PySem.W.kIn_of Y) ?F
  case F =>
    intro w mg fa h KX G hmg
    refine' Rh.all_mk KX G hmg ?a1 ?l1 ?c1 ?k1 ?a2 ?l2 ?c2 ?k2 ?a3 ?l3 ?c3 ?k3 ?a4 ?l4 ?c4 ?k4 ?z0 ?z1 ?z2 ?z3 ?z4 ?z5 ?z6
    (case a1 => k_is)
    (case l1 => k_is)
    (case c1 => k_is)
    (case k1 => k_is)
    (case a2 => k_is)
    (case l2 => k_is)
    (case c2 => k_is)
    (case k2 => k_is)
    (case a3 => k_is)
    (case l3 => k_is)
    (case c3 => k_is)
    (case k3 => k_is)
    (case a4 => k_is)
    (case l4 => k_is)
    (case c4 => k_is)
    (case k4 => k_is)
    (case z0 => k_is)
    (case z1 => k_is)
    (case z2 => k_is)
    (case z3 => k_is)
    (case z4 => k_is)
    (case z5 => k_is)
    (case z6 => k_is)


