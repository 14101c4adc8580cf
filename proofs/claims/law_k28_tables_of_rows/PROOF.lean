import PyProof.Rows.All
import Wide.All
import OpenK.AllK
import Wide.FinOn
import HandS.ForMost
import HandS.IsInst
import HandS.Wide
import HandS.Codes
import HandS.Walk
import HandS.Deep
import HandS.Lambda
import HandS.SortKw
import KE.SortKeyHeap
import KE.SortLaws
import KE.KLam
import HandS.EndBits
import HandS.EndTab
import HandS.Zip
import HandS.Rev
import HandS.Defaults
import HandS.Flow
import HandS.Strs
import HandS.SetBool
import HandS.SetFor
import HandS.SetKeys
import HandS.Style
import HandS.TupAny
import HandS.Dict
import HandS.SortInts
import HandS.Conv
import KE.GoesSet
import KE.GoesMore
import PyProof.RulesMatch
import HandS.Flt
import KE.DataMinMax
import HandS.Sort
import HandS.SortRule
import HandS.MakeKwOnly
import HandS.RaiseMore
import HandS.Text
import KE.SortData
import KE.KSortTup
import HandS.SortOrd
import PySem.Challenge.RW_ringhall_k28_tables_of_rows
set_option Elab.async false
set_option linter.all false
set_option maxHeartbeats 4000000
set_option maxRecDepth 100000
set_option exponentiation.threshold 2000
namespace Rh
open PySem L2
def topS (i : Nat) : Stmt := PySem.Challenge.pw_ringhall_k28_tables_of_rows.main.body.getD i (.Pass ⟨0, 0, 0, 0⟩)
/-! ### the purse -/
def Pu (H : Hp) (p : Addr) (n : Int) : Prop := ∃ own seed cnt : Int, H p = some (.lst [.int own, .int seed, .int cnt]) ∧ 0 ≤ own ∧ 0 ≤ seed ∧ seed < 2 ^ 63 ∧ 0 ≤ cnt ∧ cnt ≤ n
def Keep (p : Addr) (H H' : Hp) : Prop := ∀ b o, b ≠ p → H b = some o → H' b = some o
theorem Keep.refl (p : Addr) (H : Hp) : Keep p H H := fun _ _ _ h => h
theorem Keep.trans {p : Addr} {H H1 H2 : Hp} (a : Keep p H H1) (b : Keep p H1 H2) : Keep p H H2 := fun c o n h => b c o n (a c o n h)
theorem Keep.same {p : Addr} {H H' : Hp} (s : Same H H') : Keep p H H' := fun c o _ h => s c o h
theorem Same.keep {p : Addr} {H0 H H' : Hp} (s : Same H0 H) (k : Keep p H H') (n : H0 p = none) : Same H0 H' := fun b o h => k b o (ne_of_none h n) (s b o h)
theorem Same.new {H : Hp} {p : Addr} {o : HO} (h : H p = none) : Same H (upd H p o) := fun a u e => by
  rw [upd_ne (ne_of_none e h)]
  exact e
theorem Pu.same {H H' : Hp} {p : Addr} {n : Int} (u : Pu H p n) (s : Same H H') : Pu H' p n := by
  obtain ⟨a, b, c, h, r⟩ := u
  exact ⟨a, b, c, s _ _ h, r⟩
theorem Pu.mono {H : Hp} {p : Addr} {n m : Int} (u : Pu H p n) (h : n ≤ m) : Pu H p m := by
  obtain ⟨a, b, c, h1, h2, h3, h4, h5, h6⟩ := u
  exact ⟨a, b, c, h1, h2, h3, h4, h5, by omega⟩

def spPurse (K : PySem.W.Frag) : Sp := fun vs H Q _ => ∃ (a : Addr) (ns : List Int) (k : Int), vs = [.ref a, .int k] ∧ SqL K H a (ns.map V.int) ∧ ns.length ≤ 63 ∧ 0 ≤ k ∧ k < 64 ∧ ∀ p H', H p = none → Same H H' → Pu H' p 0 → Q (.ref p) H'
def spCoin : Sp := fun vs H Q _ => ∃ (p : Addr) (many n : Int), vs = [.ref p, .int many] ∧ Pu H p n ∧ n < 2 ^ 30 ∧ 1 ≤ many ∧ many < 2 ^ 300 ∧
  ∀ r H', 0 ≤ r → r < many → Pu H' p (n + 1) → Keep p H H' → Q (.int r) H'

/-- a def that stands under its name and keeps its promise -/
def Cal (P : Program) (w : World) (K : PySem.W.Frag) (mg : Str → Option Value) (base : Heap) (k : Nat) (x : Str) (ps : List Str) (sp : Sp) : Prop :=
  ∃ (f : Addr) (fd : FuncData), FnOk P w K mg base CX0 k f fd ps sp ∧ mg x = some (.ref f) ∧ PySem.W.keepIn K (.ref f) = true ∧ Binds K fd ps []

abbrev primesL : List V := [.int 2147483489, .int 2147483477, .int 2147483423, .int 2147483399, .int 2147483353, .int 2147483323, .int 2147483269, .int 2147483249]
theorem prime_at {i : Int} (h0 : 0 ≤ i) (h8 : i < 8) : ∃ v : Int, atI primesL i = some (.int v) ∧ 2147483249 ≤ v ∧ v ≤ 2147483489 := by
  have h : i = 0 ∨ i = 1 ∨ i = 2 ∨ i = 3 ∨ i = 4 ∨ i = 5 ∨ i = 6 ∨ i = 7 := by omega
  rcases h with h | h | h | h | h | h | h | h <;> subst h <;> exact ⟨_, rfl, by decide, by decide⟩

theorem yesC {σ : L2.St} {H : Hp} {A B : Hp → Prop} (h : A H) : tYes σ H (fun b H3 => if b = true then A H3 else B H3) := by
  show (if true = true then A H else B H)
  rw [if_pos rfl]
  exact h

/-! ### data readings: what stands in the heap as data -/
/-- the tables of code objects that may grow -/
class Tabz where
  T : List (Addr × Str)
/-- a family of tapes: what holds of a tape and of what else may be changed, where that stands -/
class Fam where
  Tq : V → V → Hp → Int → Prop
  Pq : V → V → Addr → Prop
  mv : ∀ {u t : V} {H H' : Hp} {n : Int}, Tq u t H n → (∀ b o, Pq u t b → H b = some o → H' b = some o) → Tq u t H' n
  ty : ∀ {u t : V} {H : Hp} {n : Int} {a : Addr}, Tq u t H n → Pq u t a → ∃ xs, H a = some (.lst xs)
section
variable [Fam] [Tabz]
mutual
inductive Rp (H : Hp) : V → PyData → Prop
  | non : Rp H .non .none
  | bl (b : Bool) : Rp H (.bl b) (.bool b)
  | int (i : Int) : Rp H (.int i) (.int i)
  | str (x : Str) : Rp H (.str x) (.str x)
  | lst {a : Addr} {xs : List V} {ds : List PyData} : H a = some (.lst xs) → RpA H xs ds → Rp H (.ref a) (.list ds)
  | tup {a : Addr} {xs : List V} {ds : List PyData} : H a = some (.tup xs) → RpA H xs ds → Rp H (.ref a) (.tuple ds)
inductive RpA (H : Hp) : List V → List PyData → Prop
  | nil : RpA H [] []
  | cons {v : V} {vs : List V} {d : PyData} {ds : List PyData} : Rp H v d → RpA H vs ds → RpA H (v :: vs) (d :: ds)
end
/-- all but tables of code objects stays -/
def Xt (H H' : Hp) : Prop := ∀ b o, (∀ ps, o ≠ HO.tbl ps) → H b = some o → H' b = some o
theorem Rp.ex {M M' : Hp} {v : V} {d : PyData} (r : Rp M v d) (e : Xt M M') : Rp M' v d := by
  refine Rp.rec (motive_1 := fun v d _ => Rp M' v d) (motive_2 := fun vs ds _ => RpA M' vs ds) .non (fun b => .bl b) (fun i => .int i) (fun x => .str x) ?_ ?_ .nil ?_ r
  · intro a xs ds h _ ih
    exact .lst (e _ _ (fun ps z => by cases z) h) ih
  · intro a xs ds h _ ih
    exact .tup (e _ _ (fun ps z => by cases z) h) ih
  · intro v vs d ds _ _ h1 h2
    exact .cons h1 h2
theorem RpA.ex {M M' : Hp} {vs : List V} {ds : List PyData} (r : RpA M vs ds) (e : Xt M M') : RpA M' vs ds := by
  refine RpA.rec (motive_1 := fun v d _ => Rp M' v d) (motive_2 := fun vs ds _ => RpA M' vs ds) .non (fun b => .bl b) (fun i => .int i) (fun x => .str x) ?_ ?_ .nil ?_ r
  · intro a xs ds h _ ih
    exact .lst (e _ _ (fun ps z => by cases z) h) ih
  · intro a xs ds h _ ih
    exact .tup (e _ _ (fun ps z => by cases z) h) ih
  · intro v vs d ds _ _ h1 h2
    exact .cons h1 h2
theorem Rp.dp {K : PySem.W.Frag} {M : Hp} {v : V} {d : PyData} (r : Rp M v d) : Dp K M v d := by
  refine Rp.rec (motive_1 := fun v d _ => Dp K M v d) (motive_2 := fun vs ds _ => DpAll K M vs ds) .non (fun b => .bl b) (fun i => .int i) (fun x => .str x) ?_ ?_ .nil ?_ r
  · intro a xs ds h _ ih
    exact .lst (SqL.of h) ih
  · intro a xs ds h _ ih
    exact .tup (SqT.of h) ih
  · intro v vs d ds _ _ h1 h2
    exact .cons h1 h2
theorem RpA.length {M : Hp} : ∀ {vs : List V} {ds : List PyData}, RpA M vs ds → vs.length = ds.length
  | _, _, .nil => rfl
  | _, _, .cons _ t => by
    show _ + 1 = _ + 1
    rw [RpA.length t]
theorem RpA.get {M : Hp} : ∀ {vs : List V} {ds : List PyData} {i : Nat} {d : PyData}, RpA M vs ds → ds[i]? = some d → ∃ v, vs[i]? = some v ∧ Rp M v d
  | _, _, _, _, .nil, e => by simp at e
  | _, _, 0, _, .cons r _, e => by
    simp at e
    subst e
    exact ⟨_, rfl, r⟩
  | _, _, i + 1, d, .cons _ t, e => by
    obtain ⟨v, h1, h2⟩ := RpA.get (i := i) (d := d) t (by simpa using e)
    exact ⟨v, by simpa using h1, h2⟩
theorem RpA.app {M : Hp} : ∀ {vs ws : List V} {ds es : List PyData}, RpA M vs ds → RpA M ws es → RpA M (vs ++ ws) (ds ++ es)
  | _, _, _, _, .nil, s => s
  | _, _, _, _, .cons r t, s => .cons r (RpA.app t s)
theorem RpA.one {M : Hp} {v : V} {d : PyData} (r : Rp M v d) : RpA M [v] [d] := .cons r .nil
theorem RpA.set {M : Hp} {v : V} {d : PyData} (r : Rp M v d) : ∀ {vs : List V} {ds : List PyData} (i : Nat), RpA M vs ds → RpA M (vs.set i v) (ds.set i d)
  | _, _, _, .nil => .nil
  | _, _, 0, .cons _ t => .cons r t
  | _, _, i + 1, .cons q t => .cons q (RpA.set r i t)
theorem RpA.take {M : Hp} : ∀ {vs : List V} {ds : List PyData} (n : Nat), RpA M vs ds → RpA M (vs.take n) (ds.take n)
  | _, _, 0, _ => .nil
  | _, _, _ + 1, .nil => .nil
  | _, _, n + 1, .cons r t => .cons r (RpA.take n t)
theorem RpA.drop {M : Hp} : ∀ {vs : List V} {ds : List PyData} (n : Nat), RpA M vs ds → RpA M (vs.drop n) (ds.drop n)
  | _, _, 0, r => r
  | _, _, _ + 1, .nil => .nil
  | _, _, n + 1, .cons _ t => RpA.drop n t
theorem RpA.rev {M : Hp} : ∀ {vs : List V} {ds : List PyData}, RpA M vs ds → RpA M vs.reverse ds.reverse
  | _, _, .nil => .nil
  | _, _, .cons r t => by
    rw [List.reverse_cons, List.reverse_cons]
    exact (RpA.rev t).app (.one r)
theorem RpA.ints {M : Hp} : ∀ {vs : List V} {ns : List Int}, RpA M vs (ns.map PyData.int) → vs = ns.map V.int
  | [], [], _ => rfl
  | _, [], h => by cases h; rfl
  | _, n :: ns, h => by
    cases h with
    | cons r t =>
      cases r
      rw [RpA.ints t]
      rfl
theorem RpA.bools {M : Hp} : ∀ {vs : List V} {ns : List Bool}, RpA M vs (ns.map PyData.bool) → vs = ns.map V.bl
  | [], [], _ => rfl
  | _, [], h => by cases h; rfl
  | _, n :: ns, h => by
    cases h with
    | cons r t =>
      cases r
      rw [RpA.bools t]
      rfl
/-- a heap with some places hidden -/
noncomputable def msk (B : Addr → Prop) (H : Hp) : Hp := fun b => open Classical in if B b then none else H b
theorem msk_out {B : Addr → Prop} {H : Hp} {b : Addr} (n : ¬ B b) : msk B H b = H b := by
  unfold msk
  rw [if_neg n]
theorem msk_some {B : Addr → Prop} {H : Hp} {b : Addr} {o : HO} (h : msk B H b = some o) : ¬ B b ∧ H b = some o := by
  unfold msk at h
  split at h
  · cases h
  · exact ⟨by assumption, h⟩
theorem msk_le {B : Addr → Prop} {H : Hp} : Xt (msk B H) H := fun b o _ h => (msk_some h).2
/-- what a place is new ahead of: nothing stands there, or a table -/
def Fresh (H : Hp) (a : Addr) : Prop := ∀ o, H a = some o → ∃ ps, o = HO.tbl ps
theorem Fresh.of {H : Hp} {a : Addr} (h : H a = none) : Fresh H a := fun o e => by
  rw [h] at e
  cases e
/-- what a name holds, what is told: data; a list or a dict of one's own; a value as it is -/
inductive DV where
  | un | tape | raw (v : V) | d (x : PyData) | own (xs : List PyData) | dic (kvs : List (Key × PyData))
def DV.isOwn : DV → Bool
  | .own _ => true
  | .dic _ => true
  | _ => false
inductive KRp (M : Hp) : List (Key × V) → List (Key × PyData) → Prop
  | nil : KRp M [] []
  | cons {k : Key} {v : V} {d : PyData} {ws : List (Key × V)} {kvs : List (Key × PyData)} : Rp M v d → KRp M ws kvs → KRp M ((k, v) :: ws) ((k, d) :: kvs)
theorem KRp.ex {M M' : Hp} {ws : List (Key × V)} {kvs : List (Key × PyData)} (r : KRp M ws kvs) (e : Xt M M') : KRp M' ws kvs := by
  induction r with
  | nil => exact .nil
  | cons h _ ih => exact .cons (h.ex e) ih
/-- where a def stands: the heap at its entry, what its callers keep apart, what may be changed, what holds of that -/
structure EC where
  H0 : Hp
  B : Addr → Prop
  t : V
  u : V
  pins : List (V × PyData)
  PB : ∀ a, Fam.Pq u t a → B a
  Bs : ∀ a, B a → ∃ o, H0 a = some o ∧ ∀ ps, o ≠ HO.tbl ps
/-- what may be changed, what holds of it -/
def EC.P (c : EC) (a : Addr) : Prop := Fam.Pq c.u c.t a
def EC.G (c : EC) (n : Int) (H : Hp) : Prop := Fam.Tq c.u c.t H n ∧ LamX.Tabs Tabz.T H
theorem Tabs_mv {T : List (Addr × Str)} {H H' : Hp} (h : LamX.Tabs T H) (k : ∀ b o, (∀ xs, o ≠ HO.lst xs) → (∀ kvs, o ≠ HO.dK kvs) → H b = some o → H' b = some o) : LamX.Tabs T H' := fun p hp => by
  obtain ⟨ps, h1, h2, h3⟩ := h p hp
  refine ⟨ps, k _ _ (fun xs z => by cases z) (fun xs z => by cases z) h1, h2, fun pos cv hc => ?_⟩
  obtain ⟨c, e1, e2⟩ := h3 pos cv hc
  exact ⟨c, e1, k _ _ (fun xs z => by cases z) (fun xs z => by cases z) e2⟩
theorem EC.Gm (c : EC) (n : Int) (H H' : Hp) (g : c.G n H) (k : ∀ b o, (∀ xs, o ≠ HO.lst xs) → (∀ kvs, o ≠ HO.dK kvs) → H b = some o → H' b = some o) (k2 : ∀ b o, c.P b → H b = some o → H' b = some o) : c.G n H' :=
  ⟨Fam.mv g.1 k2, Tabs_mv g.2 k⟩
theorem EC.Gs (c : EC) (n : Int) (H : Hp) (a : Addr) (g : c.G n H) (p : c.P a) : ∃ o, H a = some o ∧ ∀ ps, o ≠ HO.tbl ps := by
  obtain ⟨xs, h⟩ := Fam.ty g.1 p
  exact ⟨_, h, fun ps z => by cases z⟩
def EC.av (c : EC) (A : Nat → Option Addr) : Addr → Prop := fun b => c.B b ∨ ∃ i, A i = some b
def EC.pin (c : EC) (l : List (V × PyData)) : EC := { c with pins := l ++ c.pins }
/-- what stays -/
def Fr (c : EC) (n : Int) (H H' : Hp) : Prop := (∀ b o, ¬ c.P b → (∀ ps, o ≠ HO.tbl ps) → H b = some o → H' b = some o) ∧ c.G n H'
theorem Fr.refl {c : EC} {n : Int} {H : Hp} (g : c.G n H) : Fr c n H H := ⟨fun _ _ _ _ h => h, g⟩
theorem Fr.trans {c : EC} {n m : Int} {H H1 H2 : Hp} (a : Fr c n H H1) (b : Fr c m H1 H2) : Fr c m H H2 := ⟨fun x o p q h => b.1 x o p q (a.1 x o p q h), b.2⟩
theorem Fr.msk {c : EC} {n : Int} {A : Nat → Option Addr} {H H' : Hp} (f : Fr c n H H') : Xt (msk (c.av A) H) (msk (c.av A) H') := fun b o q h => by
  obtain ⟨h1, h2⟩ := msk_some h
  rw [msk_out h1]
  exact f.1 b o (fun p => h1 (.inl (c.PB b p))) q h2
theorem Fr.new {c : EC} {n : Int} {H : Hp} {p : Addr} {o : HO} (g : c.G n H) (h : H p = none) : Fr c n H (upd H p o) := by
  refine ⟨fun b u _ _ e => ?_, c.Gm n H _ g (fun b u _ _ e => ?_) fun b u _ e => ?_⟩ <;> · rw [upd_ne (ne_of_none e h)]; exact e
/-- a name's slot -/
def SlOk (t : V) (M H : Hp) (ao : Option Addr) (s : Option (Option V)) : DV → Prop
  | .un => True
  | .tape => s = some (some t) ∧ ∃ a, t = .ref a
  | .raw v => s = some (some v)
  | .d x => ∃ v, s = some (some v) ∧ Rp M v x
  | .own ds => ∃ a vs, ao = some a ∧ s = some (some (.ref a)) ∧ H a = some (.lst vs) ∧ RpA M vs ds
  | .dic kvs => ∃ a ws, ao = some a ∧ s = some (some (.ref a)) ∧ H a = some (.dK ws) ∧ KRp M ws kvs
structure EnvA (c : EC) (A : Nat → Option Addr) (n : Int) (σ : L2.St) (H : Hp) (ρ : List DV) : Prop where
  keep : ∀ b o, ¬ c.P b → (∀ ps, o ≠ HO.tbl ps) → c.H0 b = some o → H b = some o
  g : c.G n H
  new : ∀ i a, A i = some a → Fresh c.H0 a
  has : ∀ i a, A i = some a → ∃ o, H a = some o ∧ ∀ ps, o ≠ HO.tbl ps
  inj : ∀ i j a, A i = some a → A j = some a → i = j
  slot : ∀ i x, ρ[i]? = some x → SlOk c.t (msk (c.av A) H) H (A i) (σ[i]?) x
  len : ρ.length = σ.length
  pin : ∀ p ∈ c.pins, Rp (msk (c.av A) H) p.1 p.2
  fin : ∃ N, ∀ k, N ≤ k → A k = none
  mine : ∀ i a x, A i = some a → ρ[i]? = some x → x.isOwn = true
section
variable {c : EC} {A : Nat → Option Addr} {n m : Int} {σ : L2.St} {H H' H1 : Hp} {ρ : List DV}
theorem EnvA.fr0 (E : EnvA c A n σ H ρ) : Fr c n c.H0 H := ⟨E.keep, E.g⟩
theorem EnvA.nP (E : EnvA c A n σ H ρ) {i : Nat} {a : Addr} (h : A i = some a) : ¬ c.B a := fun b => by
  obtain ⟨o, h1, h2⟩ := c.Bs a b
  obtain ⟨ps, e⟩ := E.new i a h o h1
  exact h2 ps e
theorem EnvA.there (E : EnvA c A n σ H ρ) {b : Addr} (h : c.av A b) : ∃ o, H b = some o ∧ ∀ ps, o ≠ HO.tbl ps := by
  rcases h with h | ⟨i, h⟩
  · by_cases p : c.P b
    · exact c.Gs n H b E.g p
    · obtain ⟨o, h1, h2⟩ := c.Bs b h
      exact ⟨o, E.keep b o p h2 h1, h2⟩
  · exact E.has i b h
theorem EnvA.apart (E : EnvA c A n σ H ρ) {b : Addr} (h : Fresh H b) : ¬ c.av A b := fun q => by
  obtain ⟨o, h1, h2⟩ := E.there q
  obtain ⟨ps, e⟩ := h o h1
  exact h2 ps e
theorem SlOk.ex {t : V} {M M' : Hp} {ao : Option Addr} {s : Option (Option V)} {x : DV} (h : SlOk t M H ao s x) (e : Xt M M') (k : ∀ a o, ao = some a → (∀ ps, o ≠ HO.tbl ps) → H a = some o → H' a = some o) : SlOk t M' H' ao s x := by
  cases x with
  | un => exact True.intro
  | tape => exact h
  | raw v => exact h
  | d x =>
    obtain ⟨v, h1, h2⟩ := h
    exact ⟨v, h1, h2.ex e⟩
  | own ds =>
    obtain ⟨a, vs, h1, h2, h3, h4⟩ := h
    exact ⟨a, vs, h1, h2, k a _ h1 (fun ps z => by cases z) h3, h4.ex e⟩
  | dic kvs =>
    obtain ⟨a, vs, h1, h2, h3, h4⟩ := h
    exact ⟨a, vs, h1, h2, k a _ h1 (fun ps z => by cases z) h3, h4.ex e⟩
theorem EnvA.fr (E : EnvA c A n σ H ρ) (f : Fr c m H H') : EnvA c A m σ H' ρ where
  keep := fun b o p q h => f.1 b o p q (E.keep b o p q h)
  g := f.2
  new := E.new
  has := fun i a h => by
    obtain ⟨o, h1, h2⟩ := E.has i a h
    exact ⟨o, f.1 a o (fun p => E.nP h (c.PB a p)) h2 h1, h2⟩
  inj := E.inj
  slot := fun i x h => (E.slot i x h).ex f.msk fun a o h1 h2 h3 => f.1 a o (fun p => E.nP h1 (c.PB a p)) h2 h3
  len := E.len
  pin := fun p hp => (E.pin p hp).ex f.msk
  fin := E.fin
  mine := E.mine
/-- what is told -/
def VOk (t : V) (B : Addr → Prop) (H : Hp) (v : V) (H' : Hp) : DV → Prop
  | .un => False
  | .tape => v = t ∧ ∃ a, t = .ref a
  | .raw _ => False
  | .d x => Rp (msk B H') v x
  | .own ds => ∃ a vs, v = .ref a ∧ Fresh H a ∧ H' a = some (.lst vs) ∧ RpA (msk (fun b => B b ∨ b = a) H') vs ds
  | .dic kvs => ∃ a ws, v = .ref a ∧ Fresh H a ∧ H' a = some (.dK ws) ∧ KRp (msk (fun b => B b ∨ b = a) H') ws kvs
/-- what is one's own is left as data -/
def DV.cold : DV → DV
  | .own ds => .d (.list ds)
  | x => x
theorem Fresh.fr (f : Fr c m H H') {a : Addr} (h : Fresh H' a) : Fresh H a := fun o e => by
  apply Classical.byContradiction
  intro no
  have t : ∀ ps, o ≠ HO.tbl ps := fun ps z => no ⟨ps, z⟩
  by_cases p : c.P a
  · obtain ⟨o', h1, h2⟩ := c.Gs m H' a f.2 p
    obtain ⟨ps, z⟩ := h o' h1
    exact h2 ps z
  · obtain ⟨ps, z⟩ := h o (f.1 a o p t e)
    exact t ps z
theorem VOk.mono (E : EnvA c A n σ H ρ) (f : Fr c m H H1) {v : V} {x : DV} (h : VOk c.t (c.av A) H1 v H' x) : VOk c.t (c.av A) H v H' x := by
  cases x with
  | un => exact h
  | tape => exact h
  | raw v => exact h
  | d x => exact h
  | own ds =>
    obtain ⟨a, vs, h1, h2, h3, h4⟩ := h
    exact ⟨a, vs, h1, h2.fr f, h3, h4⟩
  | dic kvs =>
    obtain ⟨a, vs, h1, h2, h3, h4⟩ := h
    exact ⟨a, vs, h1, h2.fr f, h3, h4⟩
/-- later it stands as it stood -/
theorem VOk.later (E : EnvA c A n σ H ρ) {m' : Int} {v : V} {x : DV} (h : VOk c.t (c.av A) H v H1 x) (f : Fr c m H H1) (f' : Fr c m' H1 H') : VOk c.t (c.av A) H v H' x := by
  have ap : ∀ {a : Addr}, Fresh H a → ¬ c.P a := fun fr p => E.apart fr (.inl (c.PB _ p))
  have xt : ∀ {a : Addr}, Xt (msk (fun b => c.av A b ∨ b = a) H1) (msk (fun b => c.av A b ∨ b = a) H') := fun {a} b o q h => by
    obtain ⟨h1, h2⟩ := msk_some h
    rw [msk_out h1]
    exact f'.1 b o (fun p => h1 (.inl (.inl (c.PB b p)))) q h2
  cases x with
  | un => exact h
  | tape => exact h
  | raw v => exact h
  | d x => exact Rp.ex h f'.msk
  | own ds =>
    obtain ⟨a, vs, h1, h2, h3, h4⟩ := h
    exact ⟨a, vs, h1, h2, f'.1 a _ (ap h2) (fun ps z => by cases z) h3, h4.ex xt⟩
  | dic kvs =>
    obtain ⟨a, vs, h1, h2, h3, h4⟩ := h
    exact ⟨a, vs, h1, h2, f'.1 a _ (ap h2) (fun ps z => by cases z) h3, h4.ex xt⟩
theorem VOk.cold (E : EnvA c A n σ H ρ) {v : V} {x : DV} (h : VOk c.t (c.av A) H v H' x) : VOk c.t (c.av A) H v H' x.cold := by
  cases x with
  | own ds =>
    obtain ⟨a, vs, rfl, h2, h3, h4⟩ := h
    refine .lst (by rw [msk_out (E.apart h2)]; exact h3) (h4.ex fun b o _ e => ?_)
    obtain ⟨h5, h6⟩ := msk_some e
    rw [msk_out fun z => h5 (.inl z)]
    exact h6
  | un => exact h
  | tape => exact h
  | raw v => exact h
  | d x => exact h
  | dic kvs => exact h
end
end

/-! ### data readings: expressions -/
section
variable [Fam] [Tabz]
abbrev DQ := DV → Int → Prop
abbrev DF := List DV → Int → DQ → Prop
abbrev DT := List DV → Int → (Bool → Int → Prop) → Prop
abbrev DA := List DV → Int → (List DV → Int → Prop) → Prop
def tD (f : DF) : TE := fun σ H Q => ∃ (c : EC) (A : Nat → Option Addr) (n : Int) (ρ : List DV) (Q' : DQ), EnvA c A n σ H ρ ∧ f ρ n Q' ∧ ∀ v r n' H', Q' r n' → Fr c n' H H' → VOk c.t (c.av A) H v H' r → Q v H'
def tDT (f : DT) : TT := fun σ H Q => ∃ (c : EC) (A : Nat → Option Addr) (n : Int) (ρ : List DV) (Q' : Bool → Int → Prop), EnvA c A n σ H ρ ∧ f ρ n Q' ∧ ∀ b n' H', Q' b n' → Fr c n' H H' → Q b H'
/-- arguments: what is one's own is told as data -/
inductive VsOk (t : V) (B : Addr → Prop) (H : Hp) (H' : Hp) : List V → List DV → Prop
  | nil : VsOk t B H H' [] []
  | cons {v : V} {r : DV} {vs : List V} {rs : List DV} : VOk t B H v H' r → r.cold = r → VsOk t B H H' vs rs → VsOk t B H H' (v :: vs) (r :: rs)
def tDA (f : DA) : TA := fun σ H Q => ∃ (c : EC) (A : Nat → Option Addr) (n : Int) (ρ : List DV) (Q' : List DV → Int → Prop), EnvA c A n σ H ρ ∧ f ρ n Q' ∧ ∀ vs rs n' H', Q' rs n' → Fr c n' H H' → VsOk c.t (c.av A) H H' vs rs → Q vs H'
theorem _root_.L2.PE.imp {X : Cx} {e : Expr} {t t' : TE} (h : PE X e t) (i : ∀ σ H Q, t' σ H Q → t σ H Q) : PE X e t' := ⟨fun pins s σ H Q I q => h.run pins s σ H Q I (i σ H Q q)⟩
theorem _root_.L2.PT.imp {X : Cx} {e : Expr} {t t' : TT} (h : PT X e t) (i : ∀ σ H Q, t' σ H Q → t σ H Q) : PT X e t' := ⟨fun pins s σ H Q I q => h.run pins s σ H Q I (i σ H Q q)⟩
theorem _root_.L2.PW.imp {X : Cx} {e : Expr} {t t' : TT} (h : PW X e t) (i : ∀ σ H Q, t' σ H Q → t σ H Q) : PW X e t' := ⟨fun whole pins s σ H Q I q => h.run whole pins s σ H Q I (i σ H Q q)⟩
theorem _root_.L2.PA.imp {X : Cx} {es : List Expr} {t t' : TA} (h : PA X es t) (i : ∀ σ H Q, t' σ H Q → t σ H Q) : PA X es t' := ⟨fun pos pins s σ H Q I q => h.run pos pins s σ H Q I (i σ H Q q)⟩
theorem _root_.L2.PSs.imp {X : Cx} {st : List Stmt} {t t' : TS} (h : PSs X st t) (i : ∀ D σ H, t' D σ H → t D σ H) : PSs X st t' := ⟨fun pins s σ H D I q => h.run pins s σ H D I (i D σ H q)⟩
theorem _root_.L2.PS.imp {X : Cx} {st : Stmt} {t t' : TS} (h : PS X st t) (i : ∀ D σ H, t' D σ H → t D σ H) : PS X st t' := ⟨fun pins s σ H D I q => h.run pins s σ H D I (i D σ H q)⟩

/-- a name -/
def dV (i : Nat) : DF := fun ρ n Q => (∃ d, ρ[i]? = some (.d d) ∧ Q (.d d) n) ∨ (ρ[i]? = some .tape ∧ Q .tape n)
theorem pdV {X : Cx} {i : Nat} {e : Expr} (h : PE X e (tVar i)) : PE X e (tD (dV i)) := h.imp fun σ H Q ⟨c, A, n, ρ, Q', E, hf, k⟩ => by
  rcases hf with ⟨d, h1, h2⟩ | ⟨h1, h2⟩
  · obtain ⟨v, h3, h4⟩ := E.slot i _ h1
    exact ⟨v, h3, k v _ n H h2 (.refl E.g) h4⟩
  · exact ⟨c.t, (E.slot i _ h1).1, k c.t _ n H h2 (.refl E.g) ⟨rfl, (E.slot i _ h1).2⟩⟩
def dC (d : PyData) : DF := fun _ n Q => Q (.d d) n
def datC : V → Option PyData
  | .non => some .none
  | .bl b => some (.bool b)
  | .int i => some (.int i)
  | .str x => some (.str x)
  | _ => none
theorem datC_rp {v : V} {d : PyData} {M : Hp} (h : datC v = some d) : Rp M v d := by
  cases v <;> simp [datC] at h <;> subst h <;> constructor
theorem pdC {X : Cx} {v : V} {d : PyData} {e : Expr} (h : PE X e (tC v)) (hd : datC v = some d := by rfl) : PE X e (tD (dC d)) := h.imp fun σ H Q ⟨c, A, n, ρ, Q', E, hf, k⟩ => k v _ n H hf (.refl E.g) (datC_rp hd)
/-- what is told, as data -/
def DV.dat : DV → Option PyData
  | .d x => some x
  | .own ds => some (.list ds)
  | _ => none
theorem VOk.dat {c : EC} {A : Nat → Option Addr} {n : Int} {σ : L2.St} {H H' : Hp} {ρ : List DV} (E : EnvA c A n σ H ρ) {v : V} {x : DV} {d : PyData} (h : VOk c.t (c.av A) H v H' x) (e : x.dat = some d) : Rp (msk (c.av A) H') v d := by
  have q := h.cold E
  cases x with
  | d y =>
    cases e
    exact q
  | own ds =>
    cases e
    exact q
  | _ => cases e
/-- operators by values -/
def R2D (r : R2) (op : PyData → PyData → Option DV) : Prop := ∀ (t : V) (B : Addr → Prop) (H : Hp) (v w : V) (a b : PyData) (z : DV) (Q : VK), (∀ b, B b → ∃ o, H b = some o) → Rp (msk B H) v a → Rp (msk B H) w b → op a b = some z →
  (∀ u H', (∀ p o, H p = some o → H' p = some o) → VOk t B H u H' z → Q u H') → r v w H Q
def R1D (r : V → Hp → VK → Prop) (op : PyData → Option DV) : Prop := ∀ (t : V) (B : Addr → Prop) (H : Hp) (v : V) (a : PyData) (z : DV) (Q : VK), (∀ b, B b → ∃ o, H b = some o) → Rp (msk B H) v a → op a = some z →
  (∀ u H', (∀ p o, H p = some o → H' p = some o) → VOk t B H u H' z → Q u H') → r v H Q
theorem Fr.same {c : EC} {n : Int} {H H' : Hp} (g : c.G n H) (s : ∀ p o, H p = some o → H' p = some o) : Fr c n H H' := ⟨fun b o _ _ h => s b o h, c.Gm n H H' g (fun b o _ _ h => s b o h) fun b o _ h => s b o h⟩
def dBin (op : PyData → PyData → Option DV) (f g : DF) : DF := fun ρ n Q => f ρ n fun x n1 => g ρ n1 fun y n2 => ∃ a, x.dat = some a ∧ ∃ b, y.dat = some b ∧ ∃ z, op a b = some z ∧ Q z n2
def dUn (op : PyData → Option DV) (f : DF) : DF := fun ρ n Q => f ρ n fun x n1 => ∃ a, x.dat = some a ∧ ∃ z, op a = some z ∧ Q z n1
theorem bin_le {r : R2} {op : PyData → PyData → Option DV} {f g : DF} (h : R2D r op) (σ : L2.St) (H : Hp) (Q : VK) (q : tD (dBin op f g) σ H Q) : tOp r (tD f) (tD g) σ H Q := by
  obtain ⟨c, A, n, ρ, Q', E, hf, k⟩ := q
  refine ⟨c, A, n, ρ, _, E, hf, fun v x n1 H1 hg f1 o1 => ⟨c, A, n1, ρ, _, E.fr f1, hg, fun w y n2 H2 hz f2 o2 => ?_⟩⟩
  obtain ⟨a, ea, b, eb, z, ez, hq⟩ := hz
  have E2 := (E.fr f1).fr f2
  refine h c.t (c.av A) H2 v w a b z Q (fun b hb => (E2.there hb).imp fun o h => h.1) ((o1.later E f1 f2).dat E ea) (o2.dat (E.fr f1) eb) ez fun u H' s o => ?_
  have f3 := Fr.same (H' := H') E2.g s
  exact k u z n2 H' hq ((f1.trans f2).trans f3) (VOk.mono E (f1.trans f2) o)
theorem un_le {r : V → Hp → VK → Prop} {op : PyData → Option DV} {f : DF} (h : R1D r op) (σ : L2.St) (H : Hp) (Q : VK) (q : tD (dUn op f) σ H Q) : tUn r (tD f) σ H Q := by
  obtain ⟨c, A, n, ρ, Q', E, hf, k⟩ := q
  refine ⟨c, A, n, ρ, _, E, hf, fun v x n1 H1 hz f1 o1 => ?_⟩
  obtain ⟨a, ea, z, ez, hq⟩ := hz
  have E1 := E.fr f1
  refine h c.t (c.av A) H1 v a z Q (fun b hb => (E1.there hb).imp fun o h => h.1) (o1.dat E ea) ez fun u H' s o => ?_
  exact k u z n1 H' hq (f1.trans (Fr.same E1.g s)) (VOk.mono E f1 o)
theorem pdOp {X : Cx} {o : Operator} {r : R2} {op : PyData → PyData → Option DV} {a b : Expr} {f g : DF} {pos : Pos} (hd : R2D r op) (ho : OpR X (binaryOp o) r) (ha : PE X a (tD f)) (hb : PE X b (tD g)) : PE X (.BinOp a o b pos) (tD (dBin op f g)) := (pe_op ho ha hb).imp (bin_le hd)
theorem pdCmp {X : Cx} {o : CmpOp} {r : R2} {op : PyData → PyData → Option DV} {a b : Expr} {f g : DF} {pos : Pos} (hd : R2D r op) (ho : OpR X (compareOp o) r) (ha : PE X a (tD f)) (hb : PE X b (tD g)) (hm : behindInMarks o b = false) : PE X (.Compare a [o] [b] pos) (tD (dBin op f g)) := (pe_cmpR ho ha hb hm).imp (bin_le hd)
theorem pdIx {X : Cx} {r : R2} {op : PyData → PyData → Option DV} {a b : Expr} {f g : DF} {pos : Pos} (hd : R2D r op) (hr : IxR X r) (ha : PE X a (tD f)) (hb : PE X b (tD g)) (hs : PlainIx b) : PE X (.Subscript a b pos) (tD (dBin op f g)) := (pe_ix hr ha hb hs).imp (bin_le hd)
theorem pdUn {X : Cx} {o : UnaryOp} {r : V → Hp → VK → Prop} {op : PyData → Option DV} {a : Expr} {f : DF} {pos : Pos} (hd : R1D r op) (ho : UnR X (unaryOp o) r) (ha : PE X a (tD f)) : PE X (.UnaryOp o a pos) (tD (dUn op f)) := (pe_un ho ha).imp (un_le hd)
/-- tests -/
def dTest (f : DF) : DT := fun ρ n Q => f ρ n fun x n1 => ∃ b, x = .d (.bool b) ∧ Q b n1
theorem test_le {te : TE} {f : DF} (h : ∀ σ H Q, tD f σ H Q → te σ H Q) (σ : L2.St) (H : Hp) (Q : Bool → Hp → Prop) (q : tDT (dTest f) σ H Q) : te σ H fun x H1 => ∃ b, x = .bl b ∧ Q b H1 := by
  obtain ⟨c, A, n, ρ, Q', E, hf, k⟩ := q
  refine h σ H _ ⟨c, A, n, ρ, _, E, hf, fun v r n' H' ⟨b, e, hq⟩ f1 o1 => ?_⟩
  subst e
  cases o1
  exact ⟨b, rfl, k b n' H' hq f1⟩
theorem ptCmp {X : Cx} {o : CmpOp} {r : R2} {op : PyData → PyData → Option DV} {a b : Expr} {f g : DF} {pos : Pos} (hd : R2D r op) (ho : OpR X (compareOp o) r) (ha : PE X a (tD f)) (hb : PE X b (tD g)) (hm : behindInMarks o b = false) : PT X (.Compare a [o] [b] pos) (tDT (dTest (dBin op f g))) :=
  (pt_cmpR ho ha hb hm).imp fun σ H Q q => test_le (bin_le hd) σ H Q q
theorem ptVal {X : Cx} {e : Expr} {f : DF} (h : PE X e (tD f)) (he : ∀ whole, isTrue e X.env whole = (do let v ← whole; standAt e.pos; holding [v] (truthy v)) := by intro _; rfl) : PT X e (tDT (dTest f)) := (pt_val h he).imp fun σ H Q q => test_le (fun _ _ _ z => z) σ H Q q
def dNot (t : DT) : DT := fun ρ n Q => t ρ n fun b n1 => Q (!b) n1
def dAnd (t u : DT) : DT := fun ρ n Q => t ρ n fun b n1 => if b = true then u ρ n1 Q else Q false n1
def dOr (t u : DT) : DT := fun ρ n Q => t ρ n fun b n1 => if b = true then Q true n1 else u ρ n1 Q
theorem not_le {t : DT} (σ : L2.St) (H : Hp) (Q : Bool → Hp → Prop) (q : tDT (dNot t) σ H Q) : tNot (tDT t) σ H Q := by
  obtain ⟨c, A, n, ρ, Q', E, hf, k⟩ := q
  exact ⟨c, A, n, ρ, _, E, hf, fun b n' H' hq f1 => k _ n' H' hq f1⟩
theorem and_le {t u : DT} (σ : L2.St) (H : Hp) (Q : Bool → Hp → Prop) (q : tDT (dAnd t u) σ H Q) : tAnd (tDT t) (tDT u) σ H Q := by
  obtain ⟨c, A, n, ρ, Q', E, hf, k⟩ := q
  refine ⟨c, A, n, ρ, _, E, hf, fun b n' H' hq f1 => ?_⟩
  cases b with
  | true => exact ⟨c, A, n', ρ, Q', E.fr f1, hq, fun b2 n2 H2 h2 f2 => k b2 n2 H2 h2 (f1.trans f2)⟩
  | false => exact k false n' H' hq f1
theorem or_le {t u : DT} (σ : L2.St) (H : Hp) (Q : Bool → Hp → Prop) (q : tDT (dOr t u) σ H Q) : tOr (tDT t) (tDT u) σ H Q := by
  obtain ⟨c, A, n, ρ, Q', E, hf, k⟩ := q
  refine ⟨c, A, n, ρ, _, E, hf, fun b n' H' hq f1 => ?_⟩
  cases b with
  | false => exact ⟨c, A, n', ρ, Q', E.fr f1, hq, fun b2 n2 H2 h2 f2 => k b2 n2 H2 h2 (f1.trans f2)⟩
  | true => exact k true n' H' hq f1
theorem ptNot {X : Cx} {a : Expr} {t : DT} {pos : Pos} (h : PT X a (tDT t)) : PT X (.UnaryOp .Not a pos) (tDT (dNot t)) := (pt_not h).imp not_le
theorem pwAnd1 {X : Cx} {a : Expr} {t : DT} {pos : Pos} (h : PT X a (tDT t)) : PW X (.BoolOp .And [a] pos) (tDT t) := pw_and1 h
theorem pwOr1 {X : Cx} {a : Expr} {t : DT} {pos : Pos} (h : PT X a (tDT t)) : PW X (.BoolOp .Or [a] pos) (tDT t) := pw_or1 h
theorem pwAnd {X : Cx} {a b : Expr} {rest : List Expr} {t u : DT} {pos : Pos} (h : PT X a (tDT t)) (h2 : PW X (.BoolOp .And (b :: rest) pos) (tDT u)) : PW X (.BoolOp .And (a :: b :: rest) pos) (tDT (dAnd t u)) := (pw_and h h2).imp and_le
theorem pwOr {X : Cx} {a b : Expr} {rest : List Expr} {t u : DT} {pos : Pos} (h : PT X a (tDT t)) (h2 : PW X (.BoolOp .Or (b :: rest) pos) (tDT u)) : PW X (.BoolOp .Or (a :: b :: rest) pos) (tDT (dOr t u)) := (pw_or h h2).imp or_le
def dIf (t : DT) (f g : DF) : DF := fun ρ n Q => t ρ n fun b n1 => if b = true then f ρ n1 Q else g ρ n1 Q
theorem pdIf {X : Cx} {c a b : Expr} {t : DT} {f g : DF} {pos : Pos} (hc : PT X c (tDT t)) (ha : PE X a (tD f)) (hb : PE X b (tD g)) : PE X (.IfExp c a b pos) (tD (dIf t f g)) := (pe_ifExp hc ha hb).imp fun σ H Q ⟨c, A, n, ρ, Q', E, hf, k⟩ => by
  refine ⟨c, A, n, ρ, _, E, hf, fun b n' H' hq f1 => ?_⟩
  cases b with
  | true => exact ⟨c, A, n', ρ, Q', E.fr f1, hq, fun v r n2 H2 h2 f2 o2 => k v r n2 H2 h2 (f1.trans f2) (VOk.mono E f1 o2)⟩
  | false => exact ⟨c, A, n', ρ, Q', E.fr f1, hq, fun v r n2 H2 h2 f2 o2 => k v r n2 H2 h2 (f1.trans f2) (VOk.mono E f1 o2)⟩
/-- truth values joined, not -/
def dAndV (f g : DF) : DF := fun ρ n Q => f ρ n fun x n1 => ∃ b, x = .d (.bool b) ∧ if b = true then g ρ n1 Q else Q (.d (.bool false)) n1
def dOrV (f g : DF) : DF := fun ρ n Q => f ρ n fun x n1 => ∃ b, x = .d (.bool b) ∧ if b = true then Q (.d (.bool true)) n1 else g ρ n1 Q
def dNotV (f : DF) : DF := fun ρ n Q => f ρ n fun x n1 => ∃ b, x = .d (.bool b) ∧ Q (.d (.bool (!b))) n1
theorem pdAnd {X : Cx} {a b : Expr} {rest : List Expr} {f g : DF} {pos : Pos} (ha : PE X a (tD f)) (hb : PE X (.BoolOp .And (b :: rest) pos) (tD g)) : PE X (.BoolOp .And (a :: b :: rest) pos) (tD (dAndV f g)) := (pe_and ha hb).imp fun σ H Q ⟨c, A, n, ρ, Q', E, hf, k⟩ => by
  refine ⟨c, A, n, ρ, _, E, hf, fun v r n' H' ⟨b, e, hq⟩ f1 o1 => ?_⟩
  subst e
  cases o1
  refine ⟨b, rfl, ?_⟩
  cases b with
  | true => exact ⟨c, A, n', ρ, Q', E.fr f1, hq, fun v r n2 H2 h2 f2 o2 => k v r n2 H2 h2 (f1.trans f2) (VOk.mono E f1 o2)⟩
  | false => exact k _ _ n' H' hq f1 (Rp.bl false)
theorem pdOr {X : Cx} {a b : Expr} {rest : List Expr} {f g : DF} {pos : Pos} (ha : PE X a (tD f)) (hb : PE X (.BoolOp .Or (b :: rest) pos) (tD g)) : PE X (.BoolOp .Or (a :: b :: rest) pos) (tD (dOrV f g)) := (pe_or ha hb).imp fun σ H Q ⟨c, A, n, ρ, Q', E, hf, k⟩ => by
  refine ⟨c, A, n, ρ, _, E, hf, fun v r n' H' ⟨b, e, hq⟩ f1 o1 => ?_⟩
  subst e
  cases o1
  refine ⟨b, rfl, ?_⟩
  cases b with
  | false => exact ⟨c, A, n', ρ, Q', E.fr f1, hq, fun v r n2 H2 h2 f2 o2 => k v r n2 H2 h2 (f1.trans f2) (VOk.mono E f1 o2)⟩
  | true => exact k _ _ n' H' hq f1 (Rp.bl true)
theorem pdNot {X : Cx} {a : Expr} {f : DF} {pos : Pos} (ha : PE X a (tD f)) : PE X (.UnaryOp .Not a pos) (tD (dNotV f)) := (pe_not ha).imp fun σ H Q ⟨c, A, n, ρ, Q', E, hf, k⟩ => by
  refine ⟨c, A, n, ρ, _, E, hf, fun v r n' H' ⟨b, e, hq⟩ f1 o1 => ?_⟩
  subst e
  cases o1
  exact ⟨b, rfl, k _ _ n' H' hq f1 (Rp.bl _)⟩
/-- arguments -/
def dNil : DA := fun _ n Q => Q [] n
def dCons (f : DF) (g : DA) : DA := fun ρ n Q => f ρ n fun x n1 => g ρ n1 fun xs n2 => Q (x.cold :: xs) n2
theorem VsOk.mono {c : EC} {A : Nat → Option Addr} {n m : Int} {σ : L2.St} {H H1 H' : Hp} {ρ : List DV} (E : EnvA c A n σ H ρ) (f : Fr c m H H1) : ∀ {vs : List V} {rs : List DV}, VsOk c.t (c.av A) H1 H' vs rs → VsOk c.t (c.av A) H H' vs rs
  | _, _, .nil => .nil
  | _, _, .cons h e t => .cons (h.mono E f) e (VsOk.mono E f t)
theorem cold_cold (r : DV) : r.cold.cold = r.cold := by cases r <;> rfl
theorem paNil {X : Cx} : PA X [] (tDA dNil) := pa_nil.imp fun σ H Q ⟨c, A, n, ρ, Q', E, hf, k⟩ => k [] [] n H hf (.refl E.g) .nil
theorem paCons {X : Cx} {e : Expr} {es : List Expr} {f : DF} {g : DA} (ha : PE X e (tD f)) (hr : PA X es (tDA g)) (hs : starEach (e :: es) X.env = (false, eval e X.env) :: starEach es X.env := by rfl) : PA X (e :: es) (tDA (dCons f g)) := (pa_cons ha hr hs).imp fun σ H Q ⟨c, A, n, ρ, Q', E, hf, k⟩ => by
  refine ⟨c, A, n, ρ, _, E, hf, fun v x n1 H1 hg f1 o1 => ⟨c, A, n1, ρ, _, E.fr f1, hg, fun vs rs n2 H2 hq f2 o2 => ?_⟩⟩
  exact k (v :: vs) _ n2 H2 hq (f1.trans f2) (.cons ((o1.later E f1 f2).cold E) (cold_cold _) (o2.mono E f1))
/-- all of them data -/
def datsOf : List DV → Option (List PyData)
  | [] => some []
  | x :: xs => match x.dat, datsOf xs with
    | some d, some ds => some (d :: ds)
    | _, _ => none
theorem VsOk.dats {c : EC} {A : Nat → Option Addr} {n : Int} {σ : L2.St} {H H' : Hp} {ρ : List DV} (E : EnvA c A n σ H ρ) : ∀ {vs : List V} {rs : List DV} {ds : List PyData}, VsOk c.t (c.av A) H H' vs rs → datsOf rs = some ds → RpA (msk (c.av A) H') vs ds
  | _, _, _, .nil, e => by
    cases e
    exact .nil
  | _, _, ds, .cons (r := r) (rs := rs) h _ t, e => by
    unfold datsOf at e
    split at e
    · cases e
      exact .cons (h.dat E (by assumption)) (VsOk.dats E t (by assumption))
    · cases e
/-- displays -/
def dLst (g : DA) : DF := fun ρ n Q => g ρ n fun rs n1 => ∃ ds, datsOf rs = some ds ∧ ds.length ≤ 100000 ∧ Q (.own ds) n1
def dTup (g : DA) : DF := fun ρ n Q => g ρ n fun rs n1 => ∃ ds, datsOf rs = some ds ∧ ds.length ≤ 100000 ∧ Q (.d (.tuple ds)) n1
theorem big_line {n : Nat} (h : n ≤ 100000) : n ≤ sizeLine := Nat.le_trans h (by decide)
theorem big_lt {n : Nat} (h : n < 100000) : n < sizeLine := Nat.lt_of_lt_of_le h (by decide)
theorem own_new {c : EC} {A : Nat → Option Addr} {n : Int} {σ : L2.St} {H : Hp} {ρ : List DV} (E : EnvA c A n σ H ρ) {p : Addr} {vs : List V} {ds : List PyData} (hp : H p = none) (h : RpA (msk (c.av A) H) vs ds) : VOk c.t (c.av A) H (.ref p) (upd H p (.lst vs)) (.own ds) := by
  refine ⟨p, vs, rfl, .of hp, upd_same, h.ex fun b o _ e => ?_⟩
  obtain ⟨h1, h2⟩ := msk_some e
  have ne : b ≠ p := ne_of_none h2 hp
  rw [msk_out (fun z => z.elim h1 ne), upd_ne ne]
  exact h2
theorem tup_new {c : EC} {A : Nat → Option Addr} {n : Int} {σ : L2.St} {H : Hp} {ρ : List DV} (E : EnvA c A n σ H ρ) {p : Addr} {vs : List V} {ds : List PyData} (hp : H p = none) (h : RpA (msk (c.av A) H) vs ds) : VOk c.t (c.av A) H (.ref p) (upd H p (.tup vs)) (.d (.tuple ds)) := by
  refine .tup (by rw [msk_out (E.apart (.of hp))]; exact upd_same) (h.ex fun b o _ e => ?_)
  obtain ⟨h1, h2⟩ := msk_some e
  have ne : b ≠ p := ne_of_none h2 hp
  rw [msk_out h1, upd_ne ne]
  exact h2
theorem pdLst {X : Cx} {es : List Expr} {g : DA} {pos : Pos} (h : PA X es (tDA g)) : PE X (.List es pos) (tD (dLst g)) := (pe_lst h).imp fun σ H Q ⟨c, A, n, ρ, Q', E, hf, k⟩ => by
  refine ⟨c, A, n, ρ, _, E, hf, fun vs rs n1 H1 ⟨ds, e1, e2, hq⟩ f1 o1 => ?_⟩
  have r := o1.dats E e1
  refine ⟨big_line (by rw [r.length]; exact e2), fun p hp => ?_⟩
  have E1 := E.fr f1
  exact k _ _ n1 _ hq (f1.trans (Fr.new E1.g hp)) (VOk.mono E f1 (own_new E1 hp r))
theorem pdTup {X : Cx} {es : List Expr} {g : DA} {pos : Pos} {x1} (h : PA X es (tDA g)) : PE X (.Tuple es x1 pos) (tD (dTup g)) := (pe_tup h).imp fun σ H Q ⟨c, A, n, ρ, Q', E, hf, k⟩ => by
  refine ⟨c, A, n, ρ, _, E, hf, fun vs rs n1 H1 ⟨ds, e1, e2, hq⟩ f1 o1 => ?_⟩
  have r := o1.dats E e1
  refine ⟨big_line (by rw [r.length]; exact e2), fun p hp => ?_⟩
  have E1 := E.fr f1
  exact k _ _ n1 _ hq (f1.trans (Fr.new E1.g hp)) (VOk.mono E f1 (tup_new E1 hp r))
/-- calls of what is known by values, all data -/
def RsD (r : List V → Hp → VK → Prop) (op : List PyData → Option DV) : Prop := ∀ (t : V) (B : Addr → Prop) (H : Hp) (vs : List V) (as : List PyData) (z : DV) (Q : VK), (∀ b, B b → ∃ o, H b = some o) → RpA (msk B H) vs as → op as = some z →
  (∀ u H', (∀ p o, H p = some o → H' p = some o) → VOk t B H u H' z → Q u H') → r vs H Q
def dB (op : List PyData → Option DV) (g : DA) : DF := fun ρ n Q => g ρ n fun rs n1 => ∃ ds, datsOf rs = some ds ∧ ∃ z, op ds = some z ∧ Q z n1
theorem cb_le {r : List V → Hp → VK → Prop} {op : List PyData → Option DV} {g : DA} (h : RsD r op) (σ : L2.St) (H : Hp) (Q : VK) (q : tD (dB op g) σ H Q) : tCB r (tDA g) σ H Q := by
  obtain ⟨c, A, n, ρ, Q', E, hf, k⟩ := q
  refine ⟨c, A, n, ρ, _, E, hf, fun vs rs n1 H1 ⟨ds, e1, z, ez, hq⟩ f1 o1 => ?_⟩
  have E1 := E.fr f1
  refine h c.t (c.av A) H1 vs ds z Q (fun b hb => (E1.there hb).imp fun o h => h.1) (o1.dats E e1) ez fun u H' s o => ?_
  exact k u z n1 H' hq (f1.trans (Fr.same E1.g s)) (VOk.mono E f1 o)
theorem pdB {X : Cx} {id : String} {x : Str} {p pos : Pos} {e : Expr} {es : List Expr} {r : List V → Hp → VK → Prop} {op : List PyData → Option DV} {g : DA} (hd : RsD r op) (hc : CallR X (.builtin id) r) (hg : Gl X x) (hm : X.mg x = none) (hv : bootBuiltins x = some (.builtin id)) (ha : PA X (e :: es) (tDA g)) (hn : x ≠ "__name__" := by decide) (hdb : (x == ("__debug__" : Str)) = false := by decide)
    (he : starEach (e :: es) X.env = (false, eval e X.env) :: starEach es X.env := by rfl) (hpl : (backTo pos (starEach es X.env)).any (·.1) = false := by rfl) : PE X (.Call (.Name x p) (e :: es) [] pos) (tD (dB op g)) := (pe_callB hc hg hm hv ha hn hdb he hpl).imp (cb_le hd)
theorem pdTy {X : Cx} {T : String} {x : Str} {p pos : Pos} {e : Expr} {es : List Expr} {r : List V → Hp → VK → Prop} {op : List PyData → Option DV} {g : DA} (hd : RsD r op) (hc : CallR X (.type T) r) (hg : Gl X x) (hm : X.mg x = none) (hv : bootBuiltins x = some (.type T)) (ha : PA X (e :: es) (tDA g)) (hn : x ≠ "__name__" := by decide) (hdb : (x == ("__debug__" : Str)) = false := by decide)
    (he : starEach (e :: es) X.env = (false, eval e X.env) :: starEach es X.env := by rfl) (hpl : (backTo pos (starEach es X.env)).any (·.1) = false := by rfl) : PE X (.Call (.Name x p) (e :: es) [] pos) (tD (dB op g)) := (pe_callTy hc hg hm hv ha hn hdb he hpl).imp (cb_le hd)
/-- calls of defs -/
abbrev DM := List DV → Int → DQ → Prop
def spD (m : DM) : Sp := fun vs H Q _ => ∃ (c : EC) (n : Int) (rs : List DV) (Q' : DQ), c.H0 = H ∧ c.G n H ∧ c.pins = [] ∧ VsOk c.t c.B H H vs rs ∧ m rs n Q' ∧ ∀ v r n' H', Q' r n' → Fr c n' H H' → VOk c.t c.B H v H' r → Q v H'
def dCall (m : DM) (g : DA) : DF := fun ρ n Q => g ρ n fun rs n1 => m rs n1 Q
/-- the caller's place as the callee's -/
def EnvA.ec {c : EC} {A : Nat → Option Addr} {n : Int} {σ : L2.St} {H : Hp} {ρ : List DV} (E : EnvA c A n σ H ρ) : EC :=
  { H0 := H, B := c.av A, t := c.t, u := c.u, pins := [], PB := fun a p => .inl (c.PB a p), Bs := fun a h => E.there h }
theorem VsOk.now {c : EC} {A : Nat → Option Addr} {n m : Int} {σ : L2.St} {H H1 : Hp} {ρ : List DV} (E : EnvA c A n σ H ρ) : ∀ {vs : List V} {rs : List DV}, VsOk c.t (c.av A) H H1 vs rs → (∀ r ∈ rs, (∃ d, r = .d d) ∨ r = DV.tape) → VsOk c.t (c.av A) H1 H1 vs rs
  | _, _, .nil, _ => .nil
  | _, _, .cons (r := r) h ec t, a => by
    refine .cons ?_ ec (VsOk.now (m := m) E t fun r hr => a r (List.mem_cons_of_mem _ hr))
    rcases a _ List.mem_cons_self with ⟨d, e⟩ | e <;> rw [e] at h ⊢ <;> exact h
def plainR (rs : List DV) : Prop := ∀ r ∈ rs, (∃ d, r = .d d) ∨ r = DV.tape
theorem call_le {m : DM} {g : DA} (hpl : ∀ rs n Q, m rs n Q → plainR rs) (E0 : XK) (σ : L2.St) (H : Hp) (Q : VK) (q : tD (dCall m g) σ H Q) : tCall (spD m) [] E0 (tDA g) σ H Q := by
  obtain ⟨c, A, n, ρ, Q', E, hf, k⟩ := q
  refine ⟨c, A, n, ρ, _, E, hf, fun vs rs n1 H1 hm f1 o1 => ?_⟩
  have E1 := E.fr f1
  show spD m (vs ++ []) H1 Q E0
  rw [List.append_nil]
  refine ⟨E1.ec, n1, rs, Q', rfl, E1.g, rfl, o1.now (m := n1) E (hpl _ _ _ hm), hm, fun v r n' H' hq f2 o2 => ?_⟩
  exact k v r n' H' hq (f1.trans f2) (VOk.mono E f1 o2)
theorem pdCall {X : Cx} {CX : CXT} {k : Nat} {f : Addr} {fd : FuncData} {ps : List Str} {m : DM} {x : Str} {p pos : Pos} {e : Expr} {es : List Expr} {g : DA} {E0 : XK} (hpl : ∀ rs n Q, m rs n Q → plainR rs) (F : FnOk X.prog X.w X.K X.mg X.base CX k f fd ps (spD m)) (hr : Room k X.A) (hg : Gl X x) (hm : X.mg x = some (.ref f)) (hk : PySem.W.keepIn X.K (.ref f) = true) (hb : Binds X.K fd ps []) (hx : Passes CX X E0)
    (ha : PA X (e :: es) (tDA g)) (hdb : (x == ("__debug__" : Str)) = false := by decide) (he : starEach (e :: es) X.env = (false, eval e X.env) :: starEach es X.env := by rfl) (hpl2 : (backTo pos (starEach es X.env)).any (·.1) = false := by rfl) :
    PE X (.Call (.Name x p) (e :: es) [] pos) (tD (dCall m g)) := (pe_call F hr hg hm hk hb .nil hx ha hdb he hpl2).imp (call_le hpl E0)
end

/-! ### data readings: statements -/
section
variable [Fam] [Tabz]
section
variable {c : EC} {A : Nat → Option Addr} {n m : Int} {σ : L2.St} {H H' H1 : Hp} {ρ : List DV}
theorem EnvA.put' (E : EnvA c A n σ H ρ) (f : Fr c m H H') {i : Nat} {A' : Nat → Option Addr} (same : ∀ j, j ≠ i → A' j = A j) (mine : ∀ a, A' i = some a → Fresh H a ∧ ∃ o, H' a = some o ∧ ∀ ps, o ≠ HO.tbl ps) {v : V} {r : DV}
    (h : SlOk c.t (msk (c.av A') H') H' (A' i) (some (some v)) r) (hi : i < ρ.length) (ow : ∀ a, A' i = some a → r.isOwn = true) : EnvA c A' m (σ.set i (some v)) H' (ρ.set i r) := by
  have xt : Xt (msk (c.av A) H) (msk (c.av A') H') := fun b o q e => by
    obtain ⟨h1, h2⟩ := msk_some e
    have nb : ¬ c.B b := fun z => h1 (.inl z)
    have na : ¬ c.av A' b := by
      rintro (z | ⟨j, z⟩)
      · exact nb z
      · by_cases e : j = i
        · subst e
          obtain ⟨ps, z2⟩ := (mine b z).1 o h2
          exact q ps z2
        · rw [same j e] at z
          exact h1 (.inr ⟨j, z⟩)
    rw [msk_out na]
    exact f.1 b o (fun p => nb (c.PB b p)) q h2
  refine ⟨fun b o p q e => f.1 b o p q (E.keep b o p q e), f.2, fun j a e => ?_, fun j a e => ?_, fun j k a ej ek => ?_, fun j x e => ?_, by rw [List.length_set, List.length_set]; exact E.len, fun p hp => (E.pin p hp).ex xt, ?_, fun j a x e1 e2 => ?_⟩
  · by_cases z : j = i
    · subst z
      exact (mine a e).1.fr E.fr0
    · exact E.new j a (by rw [← same j z]; exact e)
  · by_cases z : j = i
    · subst z
      exact (mine a e).2
    · exact (E.fr f).has j a (by rw [← same j z]; exact e)
  · have key : ∀ {j : Nat}, j ≠ i → A' j = some a → A' i = some a → False := fun {j} z e1 e2 => by
      rw [same j z] at e1
      obtain ⟨o, h1, h2⟩ := E.has j a e1
      obtain ⟨ps, h3⟩ := (mine a e2).1 o h1
      exact h2 ps h3
    by_cases z : j = i
    · subst z
      by_cases z2 : k = j
      · exact z2.symm
      · exact (key z2 ek ej).elim
    · by_cases z2 : k = i
      · subst z2
        exact (key z ej ek).elim
      · exact E.inj j k a (by rw [← same j z]; exact ej) (by rw [← same k z2]; exact ek)
  · by_cases z : j = i
    · subst z
      rw [List.getElem?_set_self hi] at e
      cases e
      rw [List.getElem?_set_self (by rw [← E.len]; exact hi)]
      exact h
    · rw [List.getElem?_set_ne (fun q => z q.symm)] at e ⊢
      rw [same j z]
      exact (E.slot j x e).ex xt fun a o h1 h2 h3 => f.1 a o (fun p => E.nP h1 (c.PB a p)) h2 h3
  · obtain ⟨N, hN⟩ := E.fin
    refine ⟨max N (i + 1), fun k hk => ?_⟩
    rw [same k (by have := Nat.le_trans (Nat.le_max_right N (i + 1)) hk; omega)]
    exact hN k (Nat.le_trans (Nat.le_max_left _ _) hk)
  · by_cases z : j = i
    · subst z
      rw [List.getElem?_set_self hi] at e2
      cases e2
      exact ow a e1
    · rw [List.getElem?_set_ne (fun q => z q.symm)] at e2
      rw [same j z] at e1
      exact E.mine j a x e1 e2
theorem EnvA.put (E : EnvA c A n σ H ρ) (f : Fr c m H H') {i : Nat} {v : V} {r : DV} (h : VOk c.t (c.av A) H v H' r) (hi : i < ρ.length) : ∃ A', EnvA c A' m (σ.set i (some v)) H' (ρ.set i r) := by
  have drop : ∀ {b : Addr}, c.av (fun j => if j = i then none else A j) b → c.av A b := fun {b} z => by
    rcases z with z | ⟨j, z⟩
    · exact .inl z
    · have z' : (if j = i then none else A j) = some b := z
      split at z'
      · cases z'
      · exact .inr ⟨j, z'⟩
  have d1 : Xt (msk (c.av A) H') (msk (c.av (fun j => if j = i then none else A j)) H') := fun b o _ e => by
    obtain ⟨h1, h2⟩ := msk_some e
    rw [msk_out fun z => h1 (drop z)]
    exact h2
  have s1 : ∀ j, j ≠ i → (fun j => if j = i then none else A j) j = A j := fun j z => by show (if j = i then none else A j) = _; rw [if_neg z]
  have m1 : ∀ a, (fun j => if j = i then none else A j) i = some a → Fresh H a ∧ ∃ o, H' a = some o ∧ ∀ ps, o ≠ HO.tbl ps := fun a z => by
    have z' : (if i = i then none else A i) = some a := z
    rw [if_pos rfl] at z'
    cases z'
  have s2 : ∀ p j, j ≠ i → (fun j => if j = i then some p else A j) j = A j := fun p j z => by show (if j = i then some p else A j) = _; rw [if_neg z]
  have d2 : ∀ p, Xt (msk (fun b => c.av A b ∨ b = p) H') (msk (c.av (fun j => if j = i then some p else A j)) H') := fun p b o _ e => by
    obtain ⟨h1, h2⟩ := msk_some e
    rw [msk_out]
    · exact h2
    · rintro (z | ⟨j, z⟩)
      · exact h1 (.inl (.inl z))
      · have z' : (if j = i then some p else A j) = some b := z
        split at z'
        · cases z'
          exact h1 (.inr rfl)
        · exact h1 (.inl (.inr ⟨j, z'⟩))
  have i2 : ∀ p : Addr, (fun j => if j = i then some p else A j) i = some p := fun p => by show (if i = i then some p else A i) = some p; rw [if_pos rfl]
  cases r with
  | un => exact h.elim
  | raw v => exact h.elim
  | tape =>
    exact ⟨_, E.put' f s1 m1 ⟨congrArg (fun x => some (some x)) h.1, h.2⟩ hi (fun a z => by rw [if_pos rfl] at z; cases z)⟩
  | d x => exact ⟨_, E.put' f s1 m1 ⟨v, rfl, Rp.ex h d1⟩ hi (fun a z => by rw [if_pos rfl] at z; cases z)⟩
  | own ds =>
    obtain ⟨a, vs, rfl, h2, h3, h4⟩ := h
    exact ⟨_, E.put' (A' := fun j => if j = i then some a else A j) f (s2 a) (fun b z => by rw [if_pos rfl] at z; cases z; exact ⟨h2, _, h3, fun ps z => by cases z⟩) ⟨a, vs, i2 a, rfl, h3, h4.ex (d2 a)⟩ hi (fun _ _ => rfl)⟩
  | dic kvs =>
    obtain ⟨a, vs, rfl, h2, h3, h4⟩ := h
    exact ⟨_, E.put' (A' := fun j => if j = i then some a else A j) f (s2 a) (fun b z => by rw [if_pos rfl] at z; cases z; exact ⟨h2, _, h3, fun ps z => by cases z⟩) ⟨a, vs, i2 a, rfl, h3, h4.ex (d2 a)⟩ hi (fun _ _ => rfl)⟩
/-- one's own list, one's own dict is changed -/
theorem EnvA.mut (E : EnvA c A n σ H ρ) {i : Nat} {a : Addr} {o u : HO} {r : DV} (hA : A i = some a) (ho : H a = some o) (ty : (∃ xs, o = .lst xs) ∨ ∃ kvs, o = .dK kvs) (hu : ∀ ps, u ≠ HO.tbl ps)
    (h : SlOk c.t (msk (c.av A) H) (upd H a u) (A i) (σ[i]?) r) (ow : i < ρ.length → r.isOwn = true) : EnvA c A n σ (upd H a u) (ρ.set i r) := by
  have av : c.av A a := .inr ⟨i, hA⟩
  have mk : msk (c.av A) (upd H a u) = msk (c.av A) H := by
    funext b
    by_cases z : c.av A b
    · unfold msk
      rw [if_pos z, if_pos z]
    · rw [msk_out z, msk_out z, upd_ne (fun e => z (by rw [e]; exact av))]
  have ne : ∀ {b : Addr} {o' : HO}, H b = some o' → (∀ xs, o' ≠ HO.lst xs) → (∀ kvs, o' ≠ HO.dK kvs) → b ≠ a := fun {b o'} e l d z => by
    rw [z, ho] at e
    cases e
    rcases ty with ⟨xs, q⟩ | ⟨kvs, q⟩
    · exact l xs q
    · exact d kvs q
  refine ⟨fun b o' p q e => ?_, c.Gm n H _ E.g (fun b o' l d e => by rw [upd_ne (ne e l d)]; exact e) fun b o' p e => ?_, E.new, fun j b e => ?_, E.inj, fun j x e => ?_, by rw [List.length_set]; exact E.len, fun p hp => by rw [mk]; exact E.pin p hp, E.fin, fun j b x e1 e2 => ?_⟩
  · rw [upd_ne]
    · exact E.keep b o' p q e
    · intro z
      rw [z] at e
      obtain ⟨ps, z2⟩ := E.new i a hA o' e
      exact q ps z2
  · rw [upd_ne]
    · exact e
    · intro z
      rw [z] at p
      exact E.nP hA (c.PB a p)
  · by_cases z : b = a
    · subst z
      exact ⟨u, upd_same, hu⟩
    · rw [upd_ne z]
      exact E.has j b e
  · rw [mk]
    by_cases z : j = i
    · subst z
      have hj : j < ρ.length := by
        have := (List.getElem?_eq_some_iff.mp e).1
        rwa [List.length_set] at this
      rw [List.getElem?_set_self hj] at e
      cases e
      exact h
    · rw [List.getElem?_set_ne (fun q => z q.symm)] at e
      refine (E.slot j x e).ex (fun b o' _ h => h) fun b o' h1 h2 h3 => ?_
      rw [upd_ne]
      · exact h3
      · intro q
        rw [q] at h1
        exact z (E.inj j i a h1 hA)
  · by_cases z : j = i
    · subst z
      have hj : j < ρ.length := by
        have := (List.getElem?_eq_some_iff.mp e2).1
        rwa [List.length_set] at this
      rw [List.getElem?_set_self hj] at e2
      cases e2
      exact ow hj
    · rw [List.getElem?_set_ne (fun q => z q.symm)] at e2
      exact E.mine j b x e1 e2
/-- what is one's own is left as data -/
theorem EnvA.frz (E : EnvA c A n σ H ρ) (i : Nat) : EnvA c (fun j => if j = i then none else A j) n σ H (match ρ[i]? with | some (.own ds) => ρ.set i (.d (.list ds)) | some (.dic _) => ρ.set i .un | _ => ρ) := by
  have drop : ∀ {b : Addr}, c.av (fun j => if j = i then none else A j) b → c.av A b := fun {b} z => by
    rcases z with z | ⟨j, z⟩
    · exact .inl z
    · have z' : (if j = i then none else A j) = some b := z
      split at z'
      · cases z'
      · exact .inr ⟨j, z'⟩
  have xt : Xt (msk (c.av A) H) (msk (c.av (fun j => if j = i then none else A j)) H) := fun b o _ e => by
    obtain ⟨h1, h2⟩ := msk_some e
    rw [msk_out fun z => h1 (drop z)]
    exact h2
  have up : ∀ {j : Nat} {a : Addr}, (fun j => if j = i then none else A j) j = some a → j ≠ i ∧ A j = some a := fun {j a} z => by
    have z' : (if j = i then none else A j) = some a := z
    split at z'
    · cases z'
    · exact ⟨by assumption, z'⟩
  have other : ∀ (ρ' : List DV) j x, j ≠ i → ρ[j]? = some x → SlOk c.t (msk (c.av (fun j => if j = i then none else A j)) H) H ((fun j => if j = i then none else A j) j) (σ[j]?) x := fun ρ' j x z e => by
    show SlOk _ _ _ (if j = i then none else A j) _ _
    rw [if_neg z]
    exact (E.slot j x e).ex xt fun _ _ _ _ h => h
  have base : ∀ ρ' : List DV, ρ'.length = ρ.length → (∀ j, j ≠ i → ρ'[j]? = ρ[j]?) → (∀ j x, ρ'[j]? = some x → SlOk c.t (msk (c.av (fun j => if j = i then none else A j)) H) H ((fun j => if j = i then none else A j) j) (σ[j]?) x) → EnvA c (fun j => if j = i then none else A j) n σ H ρ' := fun ρ' hl ho hs =>
    ⟨E.keep, E.g, fun j a e => E.new j a (up e).2, fun j a e => E.has j a (up e).2, fun j k a e1 e2 => E.inj j k a (up e1).2 (up e2).2, hs, by rw [hl]; exact E.len, fun p hp => (E.pin p hp).ex xt, by
      obtain ⟨N, hN⟩ := E.fin
      exact ⟨N, fun k hk => by
        show (if k = i then none else A k) = none
        split
        · rfl
        · exact hN k hk⟩, fun j a x e1 e2 => E.mine j a x (up e1).2 (by rw [← ho j (up e1).1]; exact e2)⟩
  have set : ∀ y, SlOk c.t (msk (c.av (fun j => if j = i then none else A j)) H) H ((fun j => if j = i then none else A j) i) (σ[i]?) y → EnvA c (fun j => if j = i then none else A j) n σ H (ρ.set i y) := fun y hy => base _ (List.length_set ..) (fun j z => List.getElem?_set_ne fun q => z q.symm) fun j x e => by
    by_cases z : j = i
    · subst z
      have hj : j < ρ.length := by
        have := (List.getElem?_eq_some_iff.mp e).1
        rwa [List.length_set] at this
      rw [List.getElem?_set_self hj] at e
      cases e
      exact hy
    · rw [List.getElem?_set_ne (fun q => z q.symm)] at e
      exact other ρ j x z e
  have rest : (∀ x, ρ[i]? = some x → (∀ ds, x ≠ .own ds) ∧ ∀ kvs, x ≠ .dic kvs) → EnvA c (fun j => if j = i then none else A j) n σ H ρ := fun nx => base ρ rfl (fun _ _ => rfl) fun j x e => by
    by_cases z : j = i
    · subst z
      obtain ⟨n1, n2⟩ := nx x e
      have q := E.slot j x e
      cases x with
      | un => exact True.intro
      | tape => exact q
      | raw v => exact q
      | d y =>
        obtain ⟨v, h1, h2⟩ := q
        exact ⟨v, h1, h2.ex xt⟩
      | own ds => exact (n1 ds rfl).elim
      | dic kvs => exact (n2 kvs rfl).elim
    · exact other ρ j x z e
  split
  · rename_i ds e
    obtain ⟨a, vs, h1, h2, h3, h4⟩ := E.slot i _ e
    refine set _ ⟨.ref a, h2, .lst ?_ (h4.ex xt)⟩
    rw [msk_out]
    · exact h3
    · rintro (z | ⟨j, z⟩)
      · exact E.nP h1 z
      · exact (up z).1 (E.inj j i a (up z).2 h1)
  · exact set _ True.intro
  · rename_i n1 n2
    exact rest fun x e => ⟨fun ds z => n1 ds (by rw [e, z]), fun kvs z => n2 kvs (by rw [e, z])⟩
end
def frzV : DV → DV
  | .own ds => .d (.list ds)
  | .dic _ => .un
  | x => x
def frz : Nat → List DV → List DV
  | _, [] => []
  | 0, x :: xs => frzV x :: xs
  | i + 1, x :: xs => x :: frz i xs
theorem frz_eq : ∀ (i : Nat) (ρ : List DV), (match ρ[i]? with | some (.own ds) => ρ.set i (.d (.list ds)) | some (.dic _) => ρ.set i .un | _ => ρ) = frz i ρ
  | i, [] => by simp [frz]
  | 0, x :: xs => by cases x <;> rfl
  | i + 1, x :: xs => by
    show _ = x :: frz i xs
    rw [← frz_eq i xs, List.getElem?_cons_succ]
    split <;> rfl
structure DE where
  nx : List DV → Int → Prop
  rt : DQ
  bk : List DV → Int → Prop := fun _ _ => False
  ct : List DV → Int → Prop := fun _ _ => False
abbrev DS := DE → List DV → Int → Prop
structure Link (c : EC) (E : DE) (D : Ends) : Prop where
  nx : ∀ A n σ H ρ, E.nx ρ n → EnvA c A n σ H ρ → D.nx σ H
  rt : ∀ v r n H', E.rt r n → Fr c n c.H0 H' → VOk c.t c.B c.H0 v H' r → D.rt v H'
  bk : ∀ A n σ H ρ, E.bk ρ n → EnvA c A n σ H ρ → D.bk σ H
  ct : ∀ A n σ H ρ, E.ct ρ n → EnvA c A n σ H ρ → D.ct σ H
def sD (F : DS) : TS := fun D σ H => ∃ (c : EC) (A : Nat → Option Addr) (n : Int) (ρ : List DV) (E : DE), EnvA c A n σ H ρ ∧ F E ρ n ∧ Link c E D
def dSeq (F G : DS) : DS := fun E ρ n => F { E with nx := G E } ρ n
def dNext : DS := fun E ρ n => E.nx ρ n
theorem psCons {X : Cx} {st : Stmt} {rest : List Stmt} {F G : DS} (h : PS X st (sD F)) (h2 : PSs X rest (sD G)) : PSs X (st :: rest) (sD (dSeq F G)) := (pss_cons h h2).imp fun D σ H ⟨c, A, n, ρ, E, e, hf, L⟩ =>
  ⟨c, A, n, ρ, _, e, hf, fun A n σ H ρ h e' => ⟨c, A, n, ρ, E, e', h, L⟩, L.rt, L.bk, L.ct⟩
theorem psOne {X : Cx} {st : Stmt} {F : DS} (h : PS X st (sD F)) : PSs X [st] (sD F) := pss_one h
theorem psFrz {X : Cx} {st : List Stmt} {F : DS} (i : Nat) (h : PSs X st (sD F)) : PSs X st (sD fun E ρ n => F E (frz i ρ) n) := h.imp fun D σ H ⟨c, A, n, ρ, E, e, hf, L⟩ => ⟨c, _, n, _, E, (frz_eq i ρ) ▸ e.frz i, hf, L⟩
def dSet (i : Nat) (f : DF) : DS := fun E ρ n => f ρ n fun r n1 => i < ρ.length ∧ E.nx (ρ.set i r) n1
theorem set_le {i : Nat} {f : DF} (D : Ends) (σ : L2.St) (H : Hp) (q : sD (dSet i f) D σ H) : tAsg (tD f) (gName i) D σ H := by
  obtain ⟨c, A, n, ρ, E, e, hf, L⟩ := q
  refine ⟨c, A, n, ρ, _, e, hf, fun v r n1 H1 ⟨hi, h1⟩ f1 o1 => ?_⟩
  obtain ⟨A', e'⟩ := e.put f1 o1 hi
  exact L.nx _ _ _ _ _ h1 e'
theorem psSet {X : Cx} {i : Nat} {x : Str} {e : Expr} {f : DF} {pos' pos : Pos} (hN : X.N.Nodup) (hi : X.N[i]? = some x) (hx : Loc X.env.scope x) (he : PE X e (tD f)) (hs : swapsWith e (some (.Name x pos')) pos.line X.env = pure false := by rfl) (hf : X.fn x = true ∨ X.env.scope.names.lookup x = some .local := by first | exact .inl rfl | exact .inr rfl | assumption) :
    PS X (.Assign [.Name x pos'] e pos) (sD (dSet i f)) := (ps_set hN hi hx he hs hf).imp set_le
theorem VOk.home {c : EC} {A : Nat → Option Addr} {n m : Int} {σ : L2.St} {H H' : Hp} {ρ : List DV} (E : EnvA c A n σ H ρ) {v : V} {r : DV} (h : VOk c.t (c.av A) H v H' r) : VOk c.t c.B c.H0 v H' r := by
  have xt : Xt (msk (c.av A) H') (msk c.B H') := fun b o _ e => by
    obtain ⟨h1, h2⟩ := msk_some e
    rw [msk_out fun z => h1 (.inl z)]
    exact h2
  have xt2 : ∀ a, Xt (msk (fun b => c.av A b ∨ b = a) H') (msk (fun b => c.B b ∨ b = a) H') := fun a b o _ e => by
    obtain ⟨h1, h2⟩ := msk_some e
    rw [msk_out fun z => h1 (z.elim (fun z => .inl (.inl z)) .inr)]
    exact h2
  cases r with
  | un => exact h
  | tape => exact h
  | raw v => exact h
  | d x => exact Rp.ex h xt
  | own ds =>
    obtain ⟨a, vs, h1, h2, h3, h4⟩ := h
    exact ⟨a, vs, h1, h2.fr E.fr0, h3, h4.ex (xt2 a)⟩
  | dic kvs =>
    obtain ⟨a, vs, h1, h2, h3, h4⟩ := h
    exact ⟨a, vs, h1, h2.fr E.fr0, h3, h4.ex (xt2 a)⟩
def dRet (f : DF) : DS := fun E ρ n => f ρ n E.rt
theorem psRet {X : Cx} {e : Expr} {f : DF} {pos : Pos} (he : PE X e (tD f)) : PS X (.Return (some e) pos) (sD (dRet f)) := (ps_ret he).imp fun D σ H ⟨c, A, n, ρ, E, e, hf, L⟩ =>
  ⟨c, A, n, ρ, _, e, hf, fun v r n1 H1 h1 f1 o1 => L.rt v r n1 H1 h1 (e.fr0.trans f1) (o1.home (m := n1) e)⟩
def dIfS (t : DT) (F G : DS) : DS := fun E ρ n => t ρ n fun b n1 => if b = true then F E ρ n1 else G E ρ n1
theorem psIf {X : Cx} {c : Expr} {a b : List Stmt} {t : DT} {F G : DS} {pos : Pos} (hc : PT X c (tDT t)) (ha : PSs X a (sD F)) (hb : PSs X b (sD G)) : PS X (.If c a b pos) (sD (dIfS t F G)) := (ps_if hc ha hb).imp fun D σ H ⟨c, A, n, ρ, E, e, hf, L⟩ => by
  refine ⟨c, A, n, ρ, _, e, hf, fun b n1 H1 h1 f1 => ?_⟩
  cases b with
  | true => exact ⟨c, A, n1, ρ, E, e.fr f1, h1, L⟩
  | false => exact ⟨c, A, n1, ρ, E, e.fr f1, h1, L⟩
theorem psNil {X : Cx} : PSs X [] (sD dNext) := pss_nil.imp fun D σ H ⟨c, A, n, ρ, E, e, hf, L⟩ => L.nx _ _ _ _ _ hf e
theorem psBrk {X : Cx} {pos : Pos} : PS X (.Break pos) (sD fun E ρ n => E.bk ρ n) := ps_break.imp fun D σ H ⟨c, A, n, ρ, E, e, hf, L⟩ => L.bk _ _ _ _ _ hf e
theorem psCnt {X : Cx} {pos : Pos} : PS X (.Continue pos) (sD fun E ρ n => E.ct ρ n) := ps_continue.imp fun D σ H ⟨c, A, n, ρ, E, e, hf, L⟩ => L.ct _ _ _ _ _ hf e
def dExp (f : DF) : DS := fun E ρ n => f ρ n fun _ n1 => E.nx ρ n1
theorem psExp {X : Cx} {e : Expr} {f : DF} {pos : Pos} (he : PE X e (tD f)) (hs : swapsWith e none pos.line X.env = pure false := by rfl) : PS X (.Expr e pos) (sD (dExp f)) := (ps_expr he hs).imp fun D σ H ⟨c, A, n, ρ, E, e, hf, L⟩ =>
  ⟨c, A, n, ρ, _, e, hf, fun v r n1 H1 h1 f1 o1 => L.nx _ _ _ _ _ h1 (e.fr f1)⟩
def dAug (i : Nat) (op : Int → Int → Int) (f : DF) : DS := fun E ρ n => ∃ a, ρ[i]? = some (.d (.int a)) ∧ f ρ n fun r n1 => ∃ b, r = .d (.int b) ∧ E.nx (ρ.set i (.d (.int (op a b)))) n1
theorem psAug {X : Cx} {i : Nat} {x : Str} {e : Expr} {o : Operator} {op : Int → Int → Int} {f : DF} {pos' pos : Pos} (hN : X.N.Nodup) (hi : X.N[i]? = some x) (hx : Loc X.env.scope x) (ho : PIp X o (ipI op)) (he : PE X e (tD f)) (hf : X.fn x = true ∨ X.env.scope.names.lookup x = some .local := by first | exact .inl rfl | exact .inr rfl | assumption) :
    PS X (.AugAssign (.Name x pos') o e pos) (sD (dAug i op f)) := (ps_aug hN hi hx he ho hf).imp fun D σ H ⟨c, A, n, ρ, E, e, ⟨a, ha, hf⟩, L⟩ => by
  obtain ⟨v, h1, h2⟩ := e.slot i _ ha
  cases h2
  refine ⟨_, h1, c, A, n, ρ, _, e, hf, fun w r n1 H1 ⟨b, e1, h3⟩ f1 o1 => ?_⟩
  subst e1
  cases o1
  refine ⟨a, b, rfl, rfl, ?_⟩
  obtain ⟨A', e'⟩ := (e.fr f1).put (.refl f1.2) (i := i) (v := .int (op a b)) (r := .d (.int (op a b))) (Rp.int _) (List.getElem?_eq_some_iff.mp ha).1
  exact L.nx _ _ _ _ _ h3 e'
/-- xs.append(e), xs.extend(e), xs a list of one's own -/
def dApp (i : Nat) (f : DF) : DS := fun E ρ n => f ρ n fun r n1 => ∃ ds, ρ[i]? = some (.own ds) ∧ ∃ d, r.dat = some d ∧ ds.length < 100000 ∧ E.nx (ρ.set i (.own (ds ++ [d]))) n1
def dExt (i : Nat) (f : DF) : DS := fun E ρ n => f ρ n fun r n1 => ∃ ds, ρ[i]? = some (.own ds) ∧ ∃ es, r.dat = some (.list es) ∧ ds.length + es.length ≤ 100000 ∧ E.nx (ρ.set i (.own (ds ++ es))) n1
theorem set_self {ρ : List DV} {i : Nat} {x : DV} (h : ρ[i]? = some x) : ρ.set i x = ρ := by
  apply List.ext_getElem?
  intro j
  by_cases e : i = j
  · subst e
    rw [List.getElem?_set_self (List.getElem?_eq_some_iff.mp h).1, h]
  · rw [List.getElem?_set_ne e]
theorem psApp {X : Cx} {i : Nat} {e : Expr} {f : DF} {pos : Pos} (hs : swapsWith e none pos.line X.env = pure false) (h : PE X e (tBM X.K "list" rAppend (tVar i) (tCons (tD f) tNil))) : PS X (.Expr e pos) (sD (fun E ρ n => (∃ ds, ρ[i]? = some (.own ds)) ∧ dApp i f E ρ n)) := (ps_expr h hs).imp fun D σ H ⟨c, A, n, ρ, E, e, ⟨⟨ds0, h0⟩, hf⟩, L⟩ => by
  obtain ⟨a, vs, h1, h2, h3, h4⟩ := e.slot i _ h0
  refine ⟨_, h2, .inl ⟨rfl, _, SqL.of h3⟩, c, A, n, ρ, _, e, hf, fun v r n1 H1 ⟨ds, g1, d, g2, g3, g4⟩ f1 o1 => ?_⟩
  have e1 := e.fr f1
  rw [h0] at g1
  cases g1
  obtain ⟨a', vs', k1, k2, k3, k4⟩ := e1.slot i _ h0
  rw [h1] at k1
  cases k1
  have rv := o1.dat e g2
  refine ⟨a, vs', v, rfl, rfl, k3, big_lt (by rw [k4.length]; exact g3), ?_⟩
  exact L.nx _ _ _ _ _ g4 (e1.mut h1 k3 (.inl ⟨_, rfl⟩) (fun ps z => by cases z) ⟨a, _, h1, h2, upd_same, k4.app (.one rv)⟩ fun _ => rfl)
theorem psExt {X : Cx} {i : Nat} {e : Expr} {f : DF} {pos : Pos} (hs : swapsWith e none pos.line X.env = pure false) (h : PE X e (tBM X.K "list" rExtend (tVar i) (tCons (tD f) tNil))) : PS X (.Expr e pos) (sD (fun E ρ n => (∃ ds, ρ[i]? = some (.own ds)) ∧ dExt i f E ρ n)) := (ps_expr h hs).imp fun D σ H ⟨c, A, n, ρ, E, e, ⟨⟨ds0, h0⟩, hf⟩, L⟩ => by
  obtain ⟨a, vs, h1, h2, h3, h4⟩ := e.slot i _ h0
  refine ⟨_, h2, .inl ⟨rfl, _, SqL.of h3⟩, c, A, n, ρ, _, e, hf, fun v r n1 H1 ⟨ds, g1, es, g2, g3, g4⟩ f1 o1 => ?_⟩
  have e1 := e.fr f1
  rw [h0] at g1
  cases g1
  obtain ⟨a', vs', k1, k2, k3, k4⟩ := e1.slot i _ h0
  rw [h1] at k1
  cases k1
  have rv := o1.dat e g2
  cases rv with
  | lst hb rb =>
    refine ⟨a, _, vs', _, rfl, rfl, k3, (msk_some hb).2, big_line (by rw [k4.length, rb.length]; exact g3), ?_⟩
    exact L.nx _ _ _ _ _ g4 (e1.mut h1 k3 (.inl ⟨_, rfl⟩) (fun ps z => by cases z) ⟨a, _, h1, h2, upd_same, k4.app rb⟩ fun _ => rfl)
/-- a look at one's own: what is told is no list and no tuple -/
def PyData.flat0 : PyData → Bool
  | .none => true
  | .bool _ => true
  | .int _ => true
  | .str _ => true
  | _ => false
def dPeek (f : DF) : DF := fun ρ n Q => f (ρ.map DV.cold) n fun r n1 => ∃ d, r = .d d ∧ PyData.flat0 d = true ∧ Q r n1
theorem EnvA.colds {c : EC} {A : Nat → Option Addr} {n : Int} {σ : L2.St} {H : Hp} {ρ : List DV} (E : EnvA c A n σ H ρ) : ∃ A', EnvA c A' n σ H ((ρ.map DV.cold).map fun x => match x with | .dic _ => .un | y => y) := by
  have av : ∀ {b : Addr}, ¬ c.B b → ¬ c.av (fun _ => none) b := fun nb z => by
    rcases z with z | ⟨j, z⟩
    · exact nb z
    · cases z
  have xt : Xt (msk (c.av A) H) (msk (c.av (fun _ => none)) H) := fun b o _ e => by
    obtain ⟨h1, h2⟩ := msk_some e
    rw [msk_out (av fun z => h1 (.inl z))]
    exact h2
  refine ⟨fun _ => none, E.keep, E.g, fun i a e => (by cases e), fun i a e => (by cases e), fun i j a e => (by cases e), fun i x e => ?_, by rw [List.length_map, List.length_map]; exact E.len, fun p hp => (E.pin p hp).ex xt, ⟨0, fun _ _ => rfl⟩, fun i a x e => (by cases e)⟩
  rw [List.getElem?_map, List.getElem?_map] at e
  cases h : ρ[i]? with
  | none =>
    rw [h] at e
    cases e
  | some y =>
    rw [h] at e
    have q := E.slot i y h
    cases y with
    | un => cases e; exact True.intro
    | tape => cases e; exact q
    | raw v => cases e; exact q
    | d z =>
      cases e
      obtain ⟨v, h1, h2⟩ := q
      exact ⟨v, h1, h2.ex xt⟩
    | own ds =>
      cases e
      obtain ⟨a, vs, h1, h2, h3, h4⟩ := q
      refine ⟨.ref a, h2, .lst ?_ (h4.ex xt)⟩
      rw [msk_out (av (E.nP h1))]
      exact h3
    | dic kvs => cases e; exact True.intro
theorem flat_rp {d : PyData} {M M' : Hp} {v : V} (h : PyData.flat0 d = true) (r : Rp M v d) : Rp M' v d := by
  cases r with
  | lst _ _ => cases h
  | tup _ _ => cases h
  | non => exact .non
  | bl b => exact .bl b
  | int i => exact .int i
  | str x => exact .str x
def coldD : List DV → List DV := fun ρ => (ρ.map DV.cold).map fun x => match x with | .dic _ => .un | y => y
def dPk (f : DF) : DF := fun ρ n Q => f (coldD ρ) n fun r n1 => ∃ d, r = .d d ∧ PyData.flat0 d = true ∧ Q r n1
theorem pdPk {X : Cx} {e : Expr} {f : DF} (h : PE X e (tD f)) : PE X e (tD (dPk f)) := h.imp fun σ H Q ⟨c, A, n, ρ, Q', E, hf, k⟩ => by
  obtain ⟨A', E'⟩ := E.colds
  refine ⟨c, A', n, _, _, E', hf, fun v r n1 H1 ⟨d, e1, e2, h1⟩ f1 o1 => ?_⟩
  subst e1
  exact k v _ n1 H1 h1 f1 (flat_rp e2 o1)
end

/-! ### data readings: targets, loops, comprehensions, defs -/
section
variable [Fam] [Tabz]
abbrev DG := PyData → List DV → Option (List DV)
/-- a target: it changes the slots of sl alone -/
def gD (sl : List Nat) (g : DG) : TG := fun v σ H Q => ∃ (c : EC) (A : Nat → Option Addr) (n : Int) (ρ ρ' : List DV) (d : PyData), EnvA c A n σ H ρ ∧ Rp (msk (c.av A) H) v d ∧ g d ρ = some ρ' ∧
  ∀ A' σ', EnvA c A' n σ' H ρ' → σ'.length = σ.length → (∀ j, j ∉ sl → σ'[j]? = σ[j]? ∧ A' j = A j) → Q σ' H
def gDs (sl : List Nat) (g : List PyData → List DV → Option (List DV)) : TGs := fun vs σ H Q => ∃ (c : EC) (A : Nat → Option Addr) (n : Int) (ρ ρ' : List DV) (ds : List PyData), EnvA c A n σ H ρ ∧ RpA (msk (c.av A) H) vs ds ∧ g ds ρ = some ρ' ∧
  ∀ A' σ', EnvA c A' n σ' H ρ' → σ'.length = σ.length → (∀ j, j ∉ sl → σ'[j]? = σ[j]? ∧ A' j = A j) → Q σ' H
theorem _root_.L2.PG.imp {X : Cx} {e : Expr} {t t' : TG} (h : PG X e t) (i : ∀ v σ H Q, t' v σ H Q → t v σ H Q) : PG X e t' := ⟨fun pins s σ H v u Q I r q => h.run pins s σ H v u Q I r (i v σ H Q q)⟩
theorem _root_.L2.PGs.imp {X : Cx} {e : List Expr} {t t' : TGs} (h : PGs X e t) (i : ∀ v σ H Q, t' v σ H Q → t v σ H Q) : PGs X e t' := ⟨fun pins s σ H v u Q I r q => h.run pins s σ H v u Q I r (i v σ H Q q)⟩
def gN (i : Nat) : DG := fun d ρ => if i < ρ.length then some (ρ.set i (.d d)) else none
theorem EnvA.putD {c : EC} {A : Nat → Option Addr} {n : Int} {σ : L2.St} {H : Hp} {ρ : List DV} (E : EnvA c A n σ H ρ) {i : Nat} {v : V} {d : PyData} (r : Rp (msk (c.av A) H) v d) (hi : i < ρ.length) : EnvA c (fun j => if j = i then none else A j) n (σ.set i (some v)) H (ρ.set i (.d d)) := by
  refine E.put' (.refl E.g) (fun j z => by show (if j = i then none else A j) = _; rw [if_neg z]) (fun a z => ?_) ⟨v, rfl, r.ex fun b o _ e => ?_⟩ hi (fun a z => by rw [if_pos rfl] at z; cases z)
  · have z' : (if i = i then none else A i) = some a := z
    rw [if_pos rfl] at z'
    cases z'
  · obtain ⟨h1, h2⟩ := msk_some e
    rw [msk_out]
    · exact h2
    · rintro (z | ⟨j, z⟩)
      · exact h1 (.inl z)
      · have z' : (if j = i then none else A j) = some b := z
        split at z'
        · cases z'
        · exact h1 (.inr ⟨j, z'⟩)
  
theorem pgN {X : Cx} {i : Nat} {e : Expr} (h : PG X e (gName i)) : PG X e (gD [i] (gN i)) := h.imp fun v σ H Q ⟨c, A, n, ρ, ρ', d, E, r, hg, k⟩ => by
  unfold gN at hg
  split at hg
  · rename_i hi
    cases hg
    refine k _ _ (E.putD r hi) (List.length_set ..) fun j hj => ⟨List.getElem?_set_ne fun z => hj (by rw [z]; exact List.mem_singleton.mpr rfl), ?_⟩
    show (if j = i then none else A j) = A j
    rw [if_neg fun z => hj (by rw [z]; exact List.mem_singleton.mpr rfl)]
  · cases hg
def gNone : List PyData → List DV → Option (List DV) := fun ds ρ => match ds with | [] => some ρ | _ => none
def gMore (g : DG) (gs : List PyData → List DV → Option (List DV)) : List PyData → List DV → Option (List DV) := fun ds ρ => match ds with | [] => none | d :: ds => match g d ρ with | none => none | some ρ' => gs ds ρ'
theorem RpA.zips {M : Hp} : ∀ {vs : List V} {ds : List PyData}, RpA M vs ds → ∀ p ∈ List.zip vs ds, Rp M p.1 p.2
  | _, _, .nil => fun p hp => by cases hp
  | _, _, .cons r t => fun p hp => by
    rcases List.mem_cons.mp hp with e | e
    · rw [e]; exact r
    · exact RpA.zips t p e
theorem RpA.of_zips {M : Hp} : ∀ {vs : List V} {ds : List PyData}, vs.length = ds.length → (∀ p ∈ List.zip vs ds, Rp M p.1 p.2) → RpA M vs ds
  | [], [], _, _ => .nil
  | [], _ :: _, e, _ => by cases e
  | _ :: _, [], e, _ => by cases e
  | v :: vs, d :: ds, e, h => .cons (h (v, d) List.mem_cons_self) (RpA.of_zips (Nat.succ.inj e) fun p hp => h p (List.mem_cons_of_mem _ hp))
theorem pgNil {X : Cx} : PGs X [] (gDs [] gNone) := pgs_nil.imp fun vs σ H Q ⟨c, A, n, ρ, ρ', ds, E, r, hg, k⟩ => by
  unfold gNone at hg
  split at hg
  · cases hg
    cases r
    exact ⟨rfl, k A σ E rfl fun j _ => ⟨rfl, rfl⟩⟩
  · cases hg
theorem pgCons {X : Cx} {e : Expr} {es : List Expr} {s1 s2 : List Nat} {g : DG} {gs : List PyData → List DV → Option (List DV)} (h1 : PG X e (gD s1 g)) (h2 : PGs X es (gDs s2 gs))
    (hs : (assignEach (e :: es) X.env).map (·.2) = assign e X.env :: (assignEach es X.env).map (·.2) := by rfl) : PGs X (e :: es) (gDs (s1 ++ s2) (gMore g gs)) := (pgs_cons h1 h2 hs).imp fun vs σ H Q ⟨c, A, n, ρ, ρ', ds, E, r, hg, k⟩ => by
  unfold gMore at hg
  cases r with
  | nil => cases hg
  | @cons v vs d ds r rs =>
    have hg' : (match g d ρ with | none => none | some ρ' => gs ds ρ') = some ρ' := hg
    cases q : g d ρ with
    | none => rw [q] at hg'; cases hg'
    | some ρ1 =>
      rw [q] at hg'
      have Ep : EnvA (c.pin (List.zip vs ds)) A n σ H ρ := ⟨E.keep, E.g, E.new, E.has, E.inj, E.slot, E.len, fun p hp => by
        rcases List.mem_append.mp hp with hp | hp
        · exact rs.zips p hp
        · exact E.pin p hp, E.fin, E.mine⟩
      refine ⟨v, vs, rfl, c.pin (List.zip vs ds), A, n, ρ, ρ1, d, Ep, r, q, fun A1 σ1 E1 l1 o1 => ?_⟩
      have rs1 : RpA (msk (c.av A1) H) vs ds := by
        exact RpA.of_zips rs.length fun p hp => E1.pin p (List.mem_append.mpr (.inl hp))
      have E1' : EnvA c A1 n σ1 H ρ1 := ⟨E1.keep, E1.g, E1.new, E1.has, E1.inj, E1.slot, E1.len, fun p hp => E1.pin p (List.mem_append.mpr (.inr hp)), E1.fin, E1.mine⟩
      refine ⟨c, A1, n, ρ1, ρ', ds, E1', rs1, hg', fun A2 σ2 E2 l2 o2 => k A2 σ2 E2 (l2.trans l1) fun j hj => ?_⟩
      have n1 : j ∉ s1 := fun z => hj (List.mem_append.mpr (.inl z))
      have n2 : j ∉ s2 := fun z => hj (List.mem_append.mpr (.inr z))
      exact ⟨(o2 j n2).1.trans (o1 j n1).1, (o2 j n2).2.trans (o1 j n1).2⟩
def gTp (n : Nat) (gs : List PyData → List DV → Option (List DV)) : DG := fun d ρ => match d with | .tuple ds => if ds.length = n then gs ds ρ else none | _ => none
theorem pgTup {X : Cx} {es : List Expr} {k : Nat} {sl : List Nat} {gs : List PyData → List DV → Option (List DV)} {pos : Pos} {n : Nat} (hc : X.calm = true) (h : PGs X es (gDs sl gs))
    (hn : (assignEach es X.env).length = n := by rfl) (hst : (assignEach es X.env).findIdx? (·.1) = none := by rfl) : PG X (.Tuple es k pos) (gD sl (gTp n gs)) := (pg_tup hc h hn hst).imp fun v σ H Q ⟨c, A, m, ρ, ρ', d, E, r, hg, k⟩ => by
  unfold gTp at hg
  split at hg
  · split at hg
    · rename_i ds hl
      cases r with
      | tup h1 h2 => exact ⟨_, _, rfl, SqT.of (msk_some h1).2, by rw [h2.length]; exact hl, c, A, m, ρ, ρ', ds, E, h2, hg, k⟩
    · cases hg
  · cases hg
/-- a, b = e -/
def dAsg (g : DG) (f : DF) : DS := fun E ρ n => f ρ n fun r n1 => ∃ d, r.dat = some d ∧ ∃ ρ', g d ρ = some ρ' ∧ E.nx ρ' n1
theorem psAsg {X : Cx} {tg e : Expr} {f : DF} {sl : List Nat} {g : DG} {pos : Pos} (he : PE X e (tD f)) (hg : PG X tg (gD sl g)) (hs : swapsWithSole [tg] e pos.line X.env = pure false := by rfl) (hw : swappedStores [tg] e X.env = pure none := by rfl) (h1 : (assignEach [tg] X.env).map (·.2) = [assign tg X.env] := by rfl) : PS X (.Assign [tg] e pos) (sD (dAsg g f)) := (ps_asg he hg hs hw h1).imp fun D σ H ⟨c, A, n, ρ, E, e, hf, L⟩ =>
  ⟨c, A, n, ρ, _, e, hf, fun v r n1 H1 ⟨d, e1, ρ', e2, h1⟩ f1 o1 => ⟨c, A, n1, ρ, ρ', d, e.fr f1, o1.dat e e1, e2, fun A' σ' E' _ _ => L.nx _ _ _ _ _ h1 E'⟩⟩
/-- what is walked: ds, one by one, by J, while what is pinned stands -/
def WD (c : EC) (l : List (V × PyData)) (J : It) (ds : List PyData) : Prop := ∀ A n σ H ρ, EnvA (c.pin l) A n σ H ρ →
  (∀ i d, ds[i]? = some d → J.go i H ∧ ∀ x H2, J.yld i H x H2 → (∀ b o, H b = some o → H2 b = some o) ∧ Rp (msk (c.av A) H2) x d) ∧ J.stop ds.length H
abbrev DI := List DV → Int → (List PyData → Int → Prop) → Prop
def iD (f : DI) : TI := fun σ H R => ∃ (c : EC) (A : Nat → Option Addr) (n : Int) (ρ : List DV) (Q' : List PyData → Int → Prop), EnvA c A n σ H ρ ∧ f ρ n Q' ∧ ∀ ds J n' H' l, Q' ds n' → Fr c n' H H' → (∀ p ∈ l, Rp (msk (c.av A) H') p.1 p.2) → WD c l J ds → R J H'
theorem _root_.L2.PI.imp {X : Cx} {tg iter : Expr} {t t' : TI} (h : PI X tg iter t) (i : ∀ σ H R, t' σ H R → t σ H R) : PI X tg iter t' := ⟨fun pins s σ H R I q => h.run pins s σ H R I (i σ H R q)⟩
theorem EnvA.pins {c : EC} {A : Nat → Option Addr} {n : Int} {σ : L2.St} {H : Hp} {ρ : List DV} (E : EnvA c A n σ H ρ) {l : List (V × PyData)} (h : ∀ p ∈ l, Rp (msk (c.av A) H) p.1 p.2) : EnvA (c.pin l) A n σ H ρ :=
  ⟨E.keep, E.g, E.new, E.has, E.inj, E.slot, E.len, fun p hp => (List.mem_append.mp hp).elim (h p) (E.pin p), E.fin, E.mine⟩
theorem EnvA.unpin {c : EC} {A : Nat → Option Addr} {n : Int} {σ : L2.St} {H : Hp} {ρ : List DV} {l : List (V × PyData)} (E : EnvA (c.pin l) A n σ H ρ) : EnvA c A n σ H ρ :=
  ⟨E.keep, E.g, E.new, E.has, E.inj, E.slot, E.len, fun p hp => E.pin p (List.mem_append.mpr (.inr hp)), E.fin, E.mine⟩
theorem EnvA.pinned {c : EC} {A : Nat → Option Addr} {n : Int} {σ : L2.St} {H : Hp} {ρ : List DV} {l : List (V × PyData)} (E : EnvA (c.pin l) A n σ H ρ) {p : V × PyData} (h : p ∈ l) : Rp (msk (c.av A) H) p.1 p.2 := E.pin p (List.mem_append.mpr (.inl h))
/-- lists, tuples -/
def dIn (f : DF) : DI := fun ρ n Q => f ρ n fun r n1 => ∃ ds, r.dat = some (.list ds) ∧ Q ds n1
def dInT (f : DF) : DI := fun ρ n Q => f ρ n fun r n1 => ∃ ds, r.dat = some (.tuple ds) ∧ Q ds n1
theorem piList {X : Cx} {tg e : Expr} {f : DF} (h : PE X e (tD f)) : PI X tg e (iD (dIn f)) := (pi_list h).imp fun σ H R ⟨c, A, n, ρ, Q', E, hf, k⟩ => by
  refine ⟨c, A, n, ρ, _, E, hf, fun v r n1 H1 ⟨ds, e1, h1⟩ f1 o1 => ?_⟩
  have rp := o1.dat E e1
  cases rp with
  | @lst a xs _ h2 h3 =>
    refine ⟨a, rfl, ⟨xs, SqL.of (msk_some h2).2⟩, k ds _ n1 H1 [(.ref a, .list ds)] h1 f1 (fun p hp => by rw [List.mem_singleton.mp hp]; exact .lst h2 h3) fun A n σ H ρ E' => ?_⟩
    have p := E'.pinned (p := (.ref a, .list ds)) (List.mem_singleton.mpr rfl)
    cases p with
    | @lst _ ys _ g2 g3 =>
      have hl := g3.length
      have hs := SqL.of (K := X.K) (msk_some g2).2
      refine ⟨fun i d hd => ?_, walk_list.stops H hs |> fun z => by rw [← hl]; exact z⟩
      obtain ⟨y, e2, r2⟩ := g3.get hd
      exact ⟨walk_list.goes i H (List.getElem?_eq_some_iff.mp e2).1 hs, fun x H2 yl => by
        obtain ⟨rfl, e3⟩ := walk_list.yields i H x H2 (List.getElem?_eq_some_iff.mp e2).1 hs yl
        rw [e2] at e3
        cases e3
        exact ⟨fun _ _ h => h, r2⟩⟩
theorem piTup {X : Cx} {tg e : Expr} {f : DF} (h : PE X e (tD f)) : PI X tg e (iD (dInT f)) := (pi_tup h).imp fun σ H R ⟨c, A, n, ρ, Q', E, hf, k⟩ => by
  refine ⟨c, A, n, ρ, _, E, hf, fun v r n1 H1 ⟨ds, e1, h1⟩ f1 o1 => ?_⟩
  have rp := o1.dat E e1
  cases rp with
  | @tup a xs _ h2 h3 =>
    refine ⟨a, rfl, ⟨xs, SqT.of (msk_some h2).2⟩, k ds _ n1 H1 [(.ref a, .tuple ds)] h1 f1 (fun p hp => by rw [List.mem_singleton.mp hp]; exact .tup h2 h3) fun A n σ H ρ E' => ?_⟩
    have p := E'.pinned (p := (.ref a, .tuple ds)) (List.mem_singleton.mpr rfl)
    cases p with
    | @tup _ ys _ g2 g3 =>
      have hl := g3.length
      have hs := SqT.of (K := X.K) (msk_some g2).2
      refine ⟨fun i d hd => ?_, walk_tup.stops H hs |> fun z => by rw [← hl]; exact z⟩
      obtain ⟨y, e2, r2⟩ := g3.get hd
      exact ⟨walk_tup.goes i H (List.getElem?_eq_some_iff.mp e2).1 hs, fun x H2 yl => by
        obtain ⟨rfl, e3⟩ := walk_tup.yields i H x H2 (List.getElem?_eq_some_iff.mp e2).1 hs yl
        rw [e2] at e3
        cases e3
        exact ⟨fun _ _ h => h, r2⟩⟩
/-- reversed(list) -/
def dRev (f : DF) : DI := fun ρ n Q => f ρ n fun r n1 => ∃ ds, r.dat = some (.list ds) ∧ Q ds.reverse n1
theorem piRev {X : Cx} {tg e : Expr} {f : DF} (h : PI X tg e (RT.iRevA X.K (tD f))) : PI X tg e (iD (dRev f)) := h.imp fun σ H R ⟨c, A, n, ρ, Q', E, hf, k⟩ => by
  refine ⟨c, A, n, ρ, _, E, hf, fun v r n1 H1 ⟨ds, e1, h1⟩ f1 o1 => ?_⟩
  have rp := o1.dat E e1
  cases rp with
  | @lst a xs _ h2 h3 =>
    refine ⟨a, xs, rfl, .inl ⟨SqL.of (msk_some h2).2, k ds.reverse _ n1 H1 [(.ref a, .list ds)] h1 f1 (fun p hp => by rw [List.mem_singleton.mp hp]; exact .lst h2 h3) fun A n σ H ρ E' => ?_⟩⟩
    have p := E'.pinned (p := (.ref a, .list ds)) (List.mem_singleton.mpr rfl)
    have hx := h3.length
    cases p with
    | @lst _ ys _ g2 g3 =>
      have hl := g3.length
      have hs := SqL.of (K := X.K) (msk_some g2).2
      have hxy : xs.length = ys.length := by rw [hx, hl]
      rw [hxy]
      refine ⟨fun i d hd => ?_, walk_rev.stops H hs |> fun z => by rw [List.length_reverse, ← hl]; exact z⟩
      have hi : i < ds.length := by
        have := (List.getElem?_eq_some_iff.mp hd).1
        rwa [List.length_reverse] at this
      rw [List.getElem?_reverse hi] at hd
      obtain ⟨y, e2, r2⟩ := g3.get hd
      exact ⟨walk_rev.goes i H (by rw [hl]; exact hi) hs, fun x H2 yl => by
        obtain ⟨rfl, e3⟩ := walk_rev.yields i H x H2 (by rw [hl]; exact hi) hs yl
        rw [hl, e2] at e3
        cases e3
        exact ⟨fun _ _ h => h, r2⟩⟩
/-- range(n) -/
def dRng (g : DA) : DI := fun ρ n Q => g ρ n fun rs n1 => ∃ j : Int, rs = [.d (.int j)] ∧ j < 2 ^ 62 ∧ -(2 ^ 62) ≤ j ∧ Q ((List.range j.toNat).map fun i => .int (i : Nat)) n1
theorem piRng {X : Cx} {tg e : Expr} {g : DA} (h : PI X tg e (iRng1 (tDA g))) : PI X tg e (iD (dRng g)) := h.imp fun σ H R ⟨c, A, n, ρ, Q', E, hf, k⟩ => by
  refine ⟨c, A, n, ρ, _, E, hf, fun vs rs n1 H1 ⟨j, e1, h2, h3, h1⟩ f1 o1 => ?_⟩
  subst e1
  cases o1 with
  | cons h _ t =>
    cases h
    cases t
    refine ⟨j, rfl, h3, h2, k _ _ n1 H1 [] h1 f1 (fun p hp => by cases hp) fun A n σ H ρ E' => ⟨fun i d hd => ?_, by rw [List.length_map, List.length_range]; exact walk_range.stops H True.intro⟩⟩
    have hi : i < j.toNat := by
      have := (List.getElem?_eq_some_iff.mp hd).1
      rwa [List.length_map, List.length_range] at this
    rw [List.getElem?_map, List.getElem?_range hi] at hd
    cases hd
    exact ⟨walk_range.goes i H hi True.intro, fun x H2 yl => by
      obtain ⟨rfl, rfl⟩ := walk_range.yields i H x H2 hi True.intro yl
      refine ⟨fun _ _ h => h, ?_⟩
      show Rp _ (.int (0 + (i : Nat))) (.int (i : Nat))
      rw [Int.zero_add]
      exact .int _⟩
theorem new_pair {c : EC} {A : Nat → Option Addr} {n : Int} {σ : L2.St} {H : Hp} {ρ : List DV} (E : EnvA c A n σ H ρ) {T : Addr} {x y : V} {d e : PyData} (hT : H T = none) (hx : Rp (msk (c.av A) H) x d) (hy : Rp (msk (c.av A) H) y e) : Rp (msk (c.av A) (upd H T (.tup [x, y]))) (.ref T) (.tuple [d, e]) :=
  tup_new E hT (.cons hx (.cons hy .nil))
theorem same_new {H : Hp} {T : Addr} {o : HO} (hT : H T = none) : ∀ b u, H b = some u → upd H T o b = some u := fun b u h => by
  rw [upd_ne (ne_of_none h hT)]
  exact h
/-- enumerate(list), zip(list, list) -/
def enumD (ds : List PyData) : List PyData := (List.range ds.length).map fun i => .tuple [.int (i : Nat), ds.getD i .none]
def dEnum (g : DA) : DI := fun ρ n Q => g ρ n fun rs n1 => ∃ ds, datsOf rs = some [.list ds] ∧ Q (enumD ds) n1
theorem enumD_len (ds : List PyData) : (enumD ds).length = ds.length := by unfold enumD; rw [List.length_map, List.length_range]
theorem piEnum {X : Cx} {tg e : Expr} {g : DA} (h : PI X tg e (iEnum X.K (tDA g))) : PI X tg e (iD (dEnum g)) := h.imp fun σ H R ⟨c, A, n, ρ, Q', E, hf, k⟩ => by
  refine ⟨c, A, n, ρ, _, E, hf, fun vs rs n1 H1 ⟨ds, e1, h1⟩ f1 o1 => ?_⟩
  have rp := o1.dats E e1
  cases rp with
  | cons r t =>
    cases t
    cases r with
    | @lst a xs _ h2 h3 =>
      refine ⟨a, xs, rfl, SqL.of (msk_some h2).2, k _ _ n1 H1 [(.ref a, .list ds)] h1 f1 (fun p hp => by rw [List.mem_singleton.mp hp]; exact .lst h2 h3) fun A n σ H ρ E' => ?_⟩
      have p := E'.pinned (p := (.ref a, .list ds)) (List.mem_singleton.mpr rfl)
      cases p with
      | @lst _ ys _ g2 g3 =>
        have hl := g3.length
        have hs := SqL.of (K := X.K) (msk_some g2).2
        refine ⟨fun i d hd => ?_, walk_enum.stops H hs |> fun z => by rw [enumD_len, ← hl]; exact z⟩
        have hi : i < ds.length := by
          have := (List.getElem?_eq_some_iff.mp hd).1
          rwa [enumD_len] at this
        unfold enumD at hd
        rw [List.getElem?_map, List.getElem?_range hi] at hd
        cases hd
        obtain ⟨y, e2, r2⟩ := g3.get (List.getElem?_eq_getElem hi)
        have hiy : i < ys.length := by rw [hl]; exact hi
        exact ⟨walk_enum.goes i H hiy hs, fun x H2 yl => by
          obtain ⟨T, u, w, rfl, hT, rfl, hu, hw⟩ := walk_enum.yields i H x H2 hiy hs yl
          cases hu
          have hw' : ys[i]? = some w := hw
          rw [e2] at hw'
          cases hw'
          refine ⟨same_new hT, ?_⟩
          show Rp _ _ (.tuple [.int (i : Nat), ds.getD i .none])
          rw [show ds.getD i .none = ds[i] by rw [List.getD_eq_getElem?_getD, List.getElem?_eq_getElem hi]; rfl]
          exact new_pair E' hT (.int _) r2⟩
def zipD (ds es : List PyData) : List PyData := (List.zip ds es).map fun p => .tuple [p.1, p.2]
def dZip (g : DA) : DI := fun ρ n Q => g ρ n fun rs n1 => ∃ ds es, datsOf rs = some [.list ds, .list es] ∧ Q (zipD ds es) n1
theorem piZip {X : Cx} {tg e : Expr} {g : DA} (h : PI X tg e (iZip X.K (tDA g))) : PI X tg e (iD (dZip g)) := h.imp fun σ H R ⟨c, A, n, ρ, Q', E, hf, k⟩ => by
  refine ⟨c, A, n, ρ, _, E, hf, fun vs rs n1 H1 ⟨ds, es, e1, h1⟩ f1 o1 => ?_⟩
  have rp := o1.dats E e1
  cases rp with
  | cons r t =>
    cases t with
    | cons q t =>
      cases t
      cases r with
      | @lst a xs _ h2 h3 =>
        cases q with
        | @lst b zs _ h4 h5 =>
          refine ⟨a, b, xs, zs, rfl, SqL.of (msk_some h2).2, SqL.of (msk_some h4).2, k _ _ n1 H1 [(.ref a, .list ds), (.ref b, .list es)] h1 f1 (fun p hp => by
            rcases List.mem_cons.mp hp with e | e
            · rw [e]; exact .lst h2 h3
            · rw [List.mem_singleton.mp e]; exact .lst h4 h5) fun A n σ H ρ E' => ?_⟩
          have p := E'.pinned (p := (.ref a, .list ds)) List.mem_cons_self
          have p' := E'.pinned (p := (.ref b, .list es)) (List.mem_cons_of_mem _ List.mem_cons_self)
          cases p with
          | @lst _ ys _ g2 g3 =>
            cases p' with
            | @lst _ ws _ g4 g5 =>
              have hl := g3.length
              have hl' := g5.length
              have hs : SqL X.K H a ys ∧ SqL X.K H b ws := ⟨SqL.of (K := X.K) (msk_some g2).2, SqL.of (K := X.K) (msk_some g4).2⟩
              have zl : (zipD ds es).length = min ys.length ws.length := by
                unfold zipD
                rw [List.length_map, List.length_zip, hl, hl']
              have wz := walk_zip (K := X.K) (a := a) (b := b) zl
              refine ⟨fun i d hd => ?_, wz.stops H hs⟩
              have hi : i < (zipD ds es).length := (List.getElem?_eq_some_iff.mp hd).1
              have h1 : i < ds.length := by rw [zl] at hi; omega
              have h2 : i < es.length := by rw [zl] at hi; omega
              have ed : d = .tuple [ds[i], es[i]] := by
                unfold zipD at hd
                rw [List.getElem?_map, List.getElem?_eq_getElem (by rw [List.length_zip]; omega), List.getElem_zip] at hd
                exact (Option.some.inj hd).symm
              obtain ⟨y, e2, r2⟩ := g3.get (List.getElem?_eq_getElem h1)
              obtain ⟨y', e2', r2'⟩ := g5.get (List.getElem?_eq_getElem h2)
              exact ⟨wz.goes i H hi hs, fun x H2 yl => by
                obtain ⟨T, u, w, rfl, hT, rfl, hu, hw⟩ := wz.yields i H x H2 hi hs yl
                have hu' : ys[i]? = some u := hu
                have hw' : ws[i]? = some w := hw
                rw [e2] at hu'
                rw [e2'] at hw'
                cases hu'
                cases hw'
                refine ⟨same_new hT, ?_⟩
                rw [ed]
                exact new_pair E' hT r2 r2'⟩
/-- for -/
def dFor (f : DI) (g : DG) (F : DS) : DS := fun E ρ n => f ρ n fun ds n1 => ∃ W : Nat → List DV → Int → Prop, W 0 ρ n1 ∧ (∀ i d ρ n, ds[i]? = some d → W i ρ n → ∃ ρ', g d ρ = some ρ' ∧ F { E with nx := W (i + 1), ct := W (i + 1), bk := E.nx } ρ' n) ∧ ∀ ρ n, W ds.length ρ n → E.nx ρ n
theorem psFor {X : Cx} {tg iter : Expr} {body : List Stmt} {f : DI} {sl : List Nat} {g : DG} {F : DS} {pos : Pos} (hp : PassesOwn (model X.prog X.w) X.A X.env X.xe) (hc : X.calm = true) (hi : PI X tg iter (iD f)) (hg : PG X tg (gD sl g)) (hb : PSs X body (sD F))
    (hs : ∀ x, foldedSetIterable iter X.env x = pure x := by intro _; rfl) : PS X (.For tg iter body [] pos) (sD (dFor f g F)) := (ps_for hp hc hi hg hb hs).imp fun D σ H ⟨c, A, n, ρ, E, e, hf, L⟩ => by
  refine ⟨c, A, n, ρ, _, e, hf, fun ds J n1 H1 l ⟨W, w0, ws, wd⟩ f1 pins wD => ?_⟩
  refine ⟨fun i m σ H => m = ds.length - i ∧ i ≤ ds.length ∧ ∃ A n ρ, EnvA (c.pin l) A n σ H ρ ∧ W i ρ n, ⟨ds.length, by simp, Nat.zero_le _, A, n1, ρ, (e.fr f1).pins pins, w0⟩, ?_⟩
  rintro i m σ H ⟨rfl, hi, A, n, ρ, e', w⟩
  have q := wD A n σ H ρ e'
  by_cases hlt : i < ds.length
  · obtain ⟨go, yl⟩ := q.1 i ds[i] (List.getElem?_eq_getElem hlt)
    refine .inr ⟨go, fun σ H => ∃ A n ρ, EnvA (c.pin l) A n σ H ρ ∧ W (i + 1) ρ n, fun σ' H' w' => ⟨ds.length - (i + 1), by omega, rfl, hlt, w'⟩, fun x H2 y => ?_⟩
    obtain ⟨s, r⟩ := yl x H2 y
    obtain ⟨ρ', e1, h1⟩ := ws i ds[i] ρ n (List.getElem?_eq_getElem hlt) w
    have e2 : EnvA (c.pin l) A n σ H2 ρ := e'.fr (Fr.same e'.g s)
    refine ⟨c.pin l, A, n, ρ, ρ', ds[i], e2, r, e1, fun A' σ' e3 _ _ => ⟨c.pin l, A', n, ρ', _, e3, h1, ⟨?_, ?_, ?_, ?_⟩⟩⟩
    · exact fun A n σ H ρ h e4 => ⟨A, n, ρ, e4, h⟩
    · exact fun v r n H' h fr o => L.rt v r n H' h fr o
    · exact fun A n σ H ρ h e4 => L.nx A n σ H ρ h e4.unpin
    · exact fun A n σ H ρ h e4 => ⟨A, n, ρ, e4, h⟩
  · have z : i = ds.length := by omega
    subst z
    exact .inl ⟨q.2, L.nx A n σ H ρ (wd ρ n w) e'.unpin⟩
/-- while -/
def dWhile (t : DT) (F : DS) : DS := fun E ρ n => ∃ W : Nat → List DV → Int → Prop, (∃ m, W m ρ n) ∧ ∀ m ρ n, W m ρ n → t ρ n fun b n1 => if b = true then ∃ N : List DV → Int → Prop, (∀ ρ n, N ρ n → ∃ m', m' < m ∧ W m' ρ n) ∧ F { E with nx := N, ct := N, bk := E.nx } ρ n1 else E.nx ρ n1
theorem psWhile {X : Cx} {c : Expr} {body : List Stmt} {t : DT} {F : DS} {pos : Pos} (hp : PassesOwn (model X.prog X.w) X.A X.env X.xe) (hc : PT X c (tDT t)) (hb : PSs X body (sD F)) : PS X (.While c body [] pos) (sD (dWhile t F)) := (ps_while hp hc hb).imp fun D σ H ⟨c, A, n, ρ, E, e, ⟨W, ⟨m0, w0⟩, turn⟩, L⟩ => by
  refine ⟨fun m σ H => ∃ A n ρ, EnvA c A n σ H ρ ∧ W m ρ n, ⟨m0, A, n, ρ, e, w0⟩, ?_⟩
  rintro m σ H ⟨A, n, ρ, e, w⟩
  refine ⟨c, A, n, ρ, _, e, turn m ρ n w, fun b n1 H1 h f1 => ?_⟩
  cases b with
  | false => exact L.nx A n1 σ H1 ρ h (e.fr f1)
  | true =>
    obtain ⟨N, hN, hF⟩ := h
    refine ⟨fun σ H => ∃ A n ρ, EnvA c A n σ H ρ ∧ N ρ n, fun σ' H' ⟨A, n, ρ, e', w'⟩ => ?_, c, A, n1, ρ, _, e.fr f1, hF, ⟨?_, L.rt, ?_, ?_⟩⟩
    · obtain ⟨m', l, w2⟩ := hN ρ n w'
      exact ⟨m', l, A, n, ρ, e', w2⟩
    · exact fun A n σ H ρ h e4 => ⟨A, n, ρ, e4, h⟩
    · exact fun A n σ H ρ h e4 => L.nx A n σ H ρ h e4
    · exact fun A n σ H ρ h e4 => ⟨A, n, ρ, e4, h⟩

/-- comprehensions: the new list is kept apart -/
theorem EnvA.side {c : EC} {A : Nat → Option Addr} {n : Int} {σ : L2.St} {H : Hp} {ρ : List DV} (E : EnvA c A n σ H ρ) {D : Addr} {xs : List V} (hD : H D = none) (M : Nat) : ∃ k A', ρ.length ≤ k ∧ M ≤ k ∧ A' k = some D ∧ (∀ j, j ≠ k → A' j = A j) ∧ A k = none ∧ EnvA c A' n σ (upd H D (.lst xs)) ρ := by
  obtain ⟨N, hN⟩ := E.fin
  obtain ⟨Z, kN, kR, kM⟩ : ∃ Z, N ≤ Z ∧ ρ.length ≤ Z ∧ M ≤ Z := ⟨N + ρ.length + M, by omega, by omega, by omega⟩
  have same : ∀ j, j ≠ Z → (fun j => if j = Z then some D else A j) j = A j := fun j z => by show (if j = Z then some D else A j) = _; rw [if_neg z]
  have mine : (fun j => if j = Z then some D else A j) (Z) = some D := by show (if Z = Z then some D else A _) = _; rw [if_pos rfl]
  refine ⟨Z, fun j => if j = Z then some D else A j, kR, kM, mine, same, hN _ kN, ?_⟩
  have s := same_new (o := .lst xs) hD
  have xt : Xt (msk (c.av A) H) (msk (c.av fun j => if j = Z then some D else A j) (upd H D (.lst xs))) := fun b o q e => by
    obtain ⟨h1, h2⟩ := msk_some e
    rw [msk_out]
    · exact s b o h2
    · rintro (z | ⟨j, z⟩)
      · exact h1 (.inl z)
      · have z' : (if j = Z then some D else A j) = some b := z
        split at z'
        · cases z'
          rw [hD] at h2
          cases h2
        · exact h1 (.inr ⟨j, z'⟩)
  refine ⟨fun b o p q e => s b o (E.keep b o p q e), c.Gm n H _ E.g (fun b o _ _ h => s b o h) fun b o _ h => s b o h, fun j a e => ?_, fun j a e => ?_, fun i j a e1 e2 => ?_, fun i x e => ?_, E.len, fun p hp => (E.pin p hp).ex xt, ⟨Z + 1, fun k hk => ?_⟩, fun j a x e1 e2 => ?_⟩
  · have e' : (if j = Z then some D else A j) = some a := e
    split at e'
    · cases e'
      exact (Fresh.of hD).fr E.fr0
    · exact E.new j a e'
  · have e' : (if j = Z then some D else A j) = some a := e
    split at e'
    · cases e'
      exact ⟨_, upd_same, fun ps z => by cases z⟩
    · obtain ⟨o, h1, h2⟩ := E.has j a e'
      exact ⟨o, s a o h1, h2⟩
  · have e1' : (if i = Z then some D else A i) = some a := e1
    have e2' : (if j = Z then some D else A j) = some a := e2
    split at e1' <;> split at e2'
    · rename_i z1 z2
      rw [z1, z2]
    · cases e1'
      obtain ⟨o, h1, _⟩ := E.has j D e2'
      rw [hD] at h1
      cases h1
    · cases e2'
      obtain ⟨o, h1, _⟩ := E.has i D e1'
      rw [hD] at h1
      cases h1
    · exact E.inj i j a e1' e2'
  · have ni : i ≠ Z := by
      have := (List.getElem?_eq_some_iff.mp e).1
      omega
    show SlOk _ _ _ (if i = Z then some D else A i) _ _
    rw [if_neg ni]
    exact (E.slot i x e).ex xt fun a o _ _ h => s a o h
  · show (if k = Z then some D else A k) = none
    rw [if_neg (by omega)]
    exact hN k (by omega)
  · have nj : j ≠ Z := by
      have := (List.getElem?_eq_some_iff.mp e2).1
      omega
    have e1' : (if j = Z then some D else A j) = some a := e1
    rw [if_neg nj] at e1'
    exact E.mine j a x e1' e2
/-- the side list is no longer kept apart -/
theorem EnvA.unside {c : EC} {A A' : Nat → Option Addr} {n : Int} {σ : L2.St} {H : Hp} {ρ : List DV} {k : Nat} (E : EnvA c A' n σ H ρ) (hk : ρ.length ≤ k) (same : ∀ j, j ≠ k → A' j = A j) (hA : A k = none) : EnvA c A n σ H ρ := by
  have sub : ∀ {j : Nat} {a : Addr}, A j = some a → A' j = some a := fun {j a} e => by
    rw [same j (fun z => by rw [z, hA] at e; cases e)]
    exact e
  have xt : Xt (msk (c.av A') H) (msk (c.av A) H) := fun b o _ e => by
    obtain ⟨h1, h2⟩ := msk_some e
    rw [msk_out]
    · exact h2
    · rintro (z | ⟨j, z⟩)
      · exact h1 (.inl z)
      · exact h1 (.inr ⟨j, sub z⟩)
  refine ⟨E.keep, E.g, fun j a e => E.new j a (sub e), fun j a e => E.has j a (sub e), fun i j a e1 e2 => E.inj i j a (sub e1) (sub e2), fun i x e => ?_, E.len, fun p hp => (E.pin p hp).ex xt, ?_, fun j a x e1 e2 => E.mine j a x (sub e1) e2⟩
  · have ni : i ≠ k := by
      have := (List.getElem?_eq_some_iff.mp e).1
      omega
    rw [← same i ni]
    exact (E.slot i x e).ex xt fun _ _ _ _ h => h
  · obtain ⟨N, hN⟩ := E.fin
    refine ⟨max N (k + 1), fun j hj => ?_⟩
    have h1 := Nat.le_trans (Nat.le_max_left _ _) hj
    have h2 := Nat.le_trans (Nat.le_max_right N (k + 1)) hj
    rw [← same j (by omega)]
    exact hN j h1
def wipeD (ρ : List DV) : List Nat → List DV
  | [] => ρ
  | v :: vs => (wipeD ρ vs).set v .un
theorem wipeD_length (ρ : List DV) : ∀ vs : List Nat, (wipeD ρ vs).length = ρ.length
  | [] => rfl
  | v :: vs => by
    show ((wipeD ρ vs).set v .un).length = _
    rw [List.length_set]
    exact wipeD_length ρ vs
theorem EnvA.wipe {c : EC} {A : Nat → Option Addr} {n : Int} {σ : L2.St} {H : Hp} {ρ : List DV} (E : EnvA c A n σ H ρ) : ∀ vs : List Nat, (∀ j ∈ vs, A j = none) → EnvA c A n (L2.wipe σ vs) H (wipeD ρ vs)
  | [], _ => E
  | v :: vs, hv0 => by
    have E' := EnvA.wipe E vs fun j hj => hv0 j (List.mem_cons_of_mem _ hj)
    refine ⟨E'.keep, E'.g, E'.new, E'.has, E'.inj, fun i x e => ?_, ?_, E'.pin, E'.fin, fun j a x e1 e2 => ?_⟩
    · have e' : ((wipeD ρ vs).set v .un)[i]? = some x := e
      show SlOk _ _ _ _ (((L2.wipe σ vs).set v none)[i]?) x
      by_cases z : v = i
      · subst z
        have hv : v < (wipeD ρ vs).length := by
          have := (List.getElem?_eq_some_iff.mp e').1
          rwa [List.length_set] at this
        rw [List.getElem?_set_self hv] at e'
        cases e'
        exact True.intro
      · rw [List.getElem?_set_ne z] at e' ⊢
        exact E'.slot i x e'
    · show ((wipeD ρ vs).set v .un).length = ((L2.wipe σ vs).set v none).length
      rw [List.length_set, List.length_set]
      exact E'.len
    · have e' : ((wipeD ρ vs).set v .un)[j]? = some x := e2
      by_cases z : v = j
      · subst z
        rw [hv0 v List.mem_cons_self] at e1
        cases e1
      · rw [List.getElem?_set_ne z] at e'
        exact E'.mine j a x e1 e'
theorem wipe_eq {σ σ' : L2.St} {vs : List Nat} (hl : σ'.length = (wipe σ vs).length) (h : ∀ j, j ∉ vs → σ'[j]? = (wipe σ vs)[j]?) : wipe σ' vs = wipe σ vs := by
  apply List.ext_getElem?
  intro j
  by_cases hj : j ∈ vs
  · have none_at : ∀ (τ : L2.St) (vs : List Nat), j ∈ vs → j < τ.length → (wipe τ vs)[j]? = some none := by
      intro τ vs
      induction vs with
      | nil => intro h; cases h
      | cons v vs ih =>
        intro hm hl
        show ((wipe τ vs).set v none)[j]? = some none
        by_cases z : v = j
        · subst z
          exact List.getElem?_set_self (by rw [wipe_length]; exact hl)
        · rw [List.getElem?_set_ne z]
          rcases List.mem_cons.mp hm with e | e
          · exact (z e.symm).elim
          · exact ih e hl
    rw [wipe_length] at hl
    by_cases q : j < σ.length
    · rw [none_at σ' vs hj (by rw [hl]; exact q), none_at σ vs hj q]
    · rw [List.getElem?_eq_none (by rw [wipe_length, hl]; omega), List.getElem?_eq_none (by rw [wipe_length]; omega)]
  · rw [wipe_out hj]
    exact h j hj
def dYes : DT := fun _ n Q => Q true n
abbrev LcOk (g : DG) (t : DT) (h : DF) (vs : List Nat) (ρ : List DV) (Q : DQ) (ds : List PyData) (n1 : Int) : Prop := (vs.all fun j => match ρ[j]? with | some x => !x.isOwn | none => false) = true ∧ ds.length ≤ 100000 ∧ ∃ W : Nat → List PyData → Int → Prop, W 0 [] n1 ∧
  (∀ i d acc n, ds[i]? = some d → W i acc n → ∃ ρ', g d (wipeD ρ vs) = some ρ' ∧ t ρ' n fun b n2 => if b = true then h ρ' n2 fun r n3 => ∃ y, r.dat = some y ∧ W (i + 1) (acc ++ [y]) n3 else W (i + 1) acc n2) ∧ ∀ acc n, W ds.length acc n → Q (.own acc) n
def dLc (f : DI) (g : DG) (t : DT) (h : DF) (vs : List Nat) : DF := fun ρ n Q => f ρ n fun ds n1 => LcOk g t h vs ρ Q ds n1
/-- [h x for x in xs] -/
theorem lcMap {g : DG} {h : DF} {vs : List Nat} {ρ : List DV} {n : Int} {Q : DQ} {ds : List PyData} (out : List PyData) (own : (vs.all fun j => match ρ[j]? with | some x => !x.isOwn | none => false) = true) (big : ds.length ≤ 100000) (hl : out.length = ds.length)
    (step : ∀ (i : Nat) (d y : PyData), ds[i]? = some d → out[i]? = some y → ∃ ρ', g d (wipeD ρ vs) = some ρ' ∧ ∀ R : DQ, (∀ r, r.dat = some y → R r n) → h ρ' n R) (q : Q (.own out) n) : LcOk g (fun _ n Q => Q true n) h vs ρ Q ds n := by
  refine ⟨own, big, fun i acc m => m = n ∧ acc = out.take i, ⟨rfl, rfl⟩, ?_, ?_⟩
  · rintro i d acc m hd ⟨rfl, rfl⟩
    have hi : i < out.length := by rw [hl]; exact (List.getElem?_eq_some_iff.mp hd).1
    obtain ⟨y, ey⟩ : ∃ y, out[i]? = some y := ⟨_, List.getElem?_eq_getElem hi⟩
    obtain ⟨ρ', e1, h1⟩ := step i d y hd ey
    refine ⟨ρ', e1, ?_⟩
    show (if true = true then _ else _)
    rw [if_pos rfl]
    exact h1 _ fun r er => ⟨y, er, rfl, by rw [List.take_succ, ey]; rfl⟩
  · rintro acc m ⟨rfl, rfl⟩
    rw [← hl, List.take_length]
    exact q
/-- [x for x in xs if p x] -/
theorem lcFil {g : DG} {t : DT} {h : DF} {vs : List Nat} {ρ : List DV} {n : Int} {Q : DQ} {ds : List PyData} (p : PyData → Bool) (own : (vs.all fun j => match ρ[j]? with | some x => !x.isOwn | none => false) = true) (big : ds.length ≤ 100000)
    (step : ∀ d, d ∈ ds → ∃ ρ', g d (wipeD ρ vs) = some ρ' ∧ (∀ R : Bool → Int → Prop, R (p d) n → t ρ' n R) ∧ ∀ R : DQ, R (.d d) n → h ρ' n R) (q : Q (.own (ds.filter p)) n) : LcOk g t h vs ρ Q ds n := by
  refine ⟨own, big, fun i acc m => m = n ∧ acc = (ds.take i).filter p, ⟨rfl, rfl⟩, ?_, ?_⟩
  · rintro i d acc m hd ⟨rfl, rfl⟩
    obtain ⟨ρ', e1, h1, h2⟩ := step d (List.mem_of_getElem? hd)
    refine ⟨ρ', e1, h1 _ ?_⟩
    have et : (ds.take (i + 1)).filter p = (ds.take i).filter p ++ if p d = true then [d] else [] := by
      rw [List.take_succ, hd, List.filter_append]
      congr 1
      cases e : p d with
      | true => simp [e]
      | false => simp [e]
    cases e : p d with
    | true =>
      rw [if_pos rfl]
      refine h2 _ ⟨d, rfl, rfl, ?_⟩
      rw [et, e, if_pos rfl]
    | false =>
      rw [if_neg Bool.false_ne_true]
      refine ⟨rfl, ?_⟩
      rw [et, e, if_neg Bool.false_ne_true, List.append_nil]
  · rintro acc m ⟨rfl, rfl⟩
    rw [List.take_length] at *
    exact q
theorem bound_of (vs : List Nat) : ∃ M, ∀ j ∈ vs, j < M := by
  induction vs with
  | nil => exact ⟨0, fun j h => by cases h⟩
  | cons v vs ih =>
    obtain ⟨M, h⟩ := ih
    refine ⟨M + v + 1, fun j hj => ?_⟩
    rcases List.mem_cons.mp hj with e | e
    · omega
    · have := h j e
      omega
theorem lc_le {f : DI} {g : DG} {sl vs : List Nat} {t : DT} {tt : TT} {h : DF} (hsl : ∀ j ∈ sl, j ∈ vs) (ht : ∀ σ H Q, tDT t σ H Q → tt σ H Q) (σ : L2.St) (H : Hp) (Q : VK) (q : tD (dLc f g t h vs) σ H Q) : tLc (iD f) (gD sl g) tt (tD h) vs σ H Q := by
  obtain ⟨c, A, n, ρ, Q', E, hf, k⟩ := q
  refine ⟨c, A, n, ρ, _, E, hf, fun ds J n1 H1 l ⟨nown, big, W, w0, ws, wd⟩ f1 pins wD D hD => ?_⟩
  have E1 := E.fr f1
  obtain ⟨M, hM⟩ := bound_of vs
  obtain ⟨kD, A1, hk, hkM, hA1, sameA, hAk, ES⟩ := E1.side (xs := []) hD M
  have vA1 : ∀ j ∈ vs, A1 j = none := fun j hj => by
    have hb := List.all_eq_true.mp nown j hj
    have nk : j ≠ kD := by
      have := hM j hj
      omega
    cases e : A1 j with
    | none => rfl
    | some a =>
      cases er : ρ[j]? with
      | none =>
        rw [er] at hb
        cases hb
      | some x =>
        have := ES.mine j a x e er
        rw [er] at hb
        have hb' : (!x.isOwn) = true := hb
        rw [this] at hb'
        cases hb'
  have Ep : EnvA (c.pin l) A1 n1 σ (upd H1 D (.lst [])) ρ := ES.pins fun p hp => (pins p hp).ex fun b o q e => by
    obtain ⟨h1, h2⟩ := msk_some e
    have nb : b ≠ D := fun z => by rw [z, hD] at h2; cases h2
    rw [msk_out]
    · rw [upd_ne nb]; exact h2
    · rintro (z | ⟨j, z⟩)
      · exact h1 (.inl z)
      · by_cases e : j = kD
        · rw [e, hA1] at z
          exact nb (Option.some.inj z).symm
        · rw [sameA j e] at z
          exact h1 (.inr ⟨j, z⟩)
  refine ⟨fun i m H2 => m = ds.length - i ∧ i ≤ ds.length ∧ ∃ n vals acc, EnvA (c.pin l) A1 n σ H2 ρ ∧ H2 D = some (.lst vals) ∧ RpA (msk (c.av A1) H2) vals acc ∧ acc.length ≤ i ∧ W i acc n ∧ (∀ b o, ¬ c.P b → (∀ ps, o ≠ HO.tbl ps) → H1 b = some o → H2 b = some o), ⟨ds.length, by simp, Nat.zero_le _, n1, [], [], Ep, upd_same, .nil, Nat.le_refl _, w0, fun b o _ _ e => by rw [upd_ne (ne_of_none e hD)]; exact e⟩, ?_⟩
  rintro i m H2 ⟨rfl, hi, n2, vals, acc, e2, hv, rv, la, w, kp⟩
  have qD := wD A1 n2 σ H2 ρ e2
  have nD : ¬ c.P D := fun p => (e2.nP hA1) (c.PB D p)
  have avD : c.av A1 D := .inr ⟨kD, hA1⟩
  by_cases hlt : i < ds.length
  · obtain ⟨go, yl⟩ := qD.1 i ds[i] (List.getElem?_eq_getElem hlt)
    refine .inr ⟨go, fun H2 => ∃ n vals acc, EnvA (c.pin l) A1 n σ H2 ρ ∧ H2 D = some (.lst vals) ∧ RpA (msk (c.av A1) H2) vals acc ∧ acc.length ≤ i + 1 ∧ W (i + 1) acc n ∧ (∀ b o, ¬ c.P b → (∀ ps, o ≠ HO.tbl ps) → H1 b = some o → H2 b = some o), fun H' w' => ⟨ds.length - (i + 1), by omega, rfl, hlt, w'⟩, fun x H3 y => ?_⟩
    obtain ⟨s3, r3⟩ := yl x H3 y
    obtain ⟨ρ', eg, et⟩ := ws i ds[i] acc n2 (List.getElem?_eq_getElem hlt) w
    have f3 : Fr (c.pin l) n2 H2 H3 := Fr.same e2.g s3
    have e3 : EnvA (c.pin l) A1 n2 (L2.wipe σ vs) H3 (wipeD ρ vs) := (e2.fr f3).wipe vs vA1
    refine ⟨c.pin l, A1, n2, _, ρ', ds[i], e3, r3, eg, fun A' σ' e4 l4 o4 => ⟨wipe_eq l4 fun j hj => (o4 j fun z => hj (hsl j z)).1, ?_⟩⟩
    have back : ∀ {n5 : Int} {H5 : Hp}, Fr (c.pin l) n5 H3 H5 → EnvA (c.pin l) A1 n5 σ H5 ρ ∧ H5 D = some (.lst vals) ∧ RpA (msk (c.av A1) H5) vals acc ∧ (∀ b o, ¬ c.P b → (∀ ps, o ≠ HO.tbl ps) → H1 b = some o → H5 b = some o) := fun {n5 H5} f5 => by
      have f25 := f3.trans f5
      exact ⟨e2.fr f25, f25.1 D _ nD (fun ps z => by cases z) hv, rv.ex f25.msk, fun b o p q e => f25.1 b o p q (kp b o p q e)⟩
    refine ht σ' H3 _ ⟨c.pin l, A', n2, ρ', _, e4, et, fun b n4 H4 hb f4 => ?_⟩
    cases b with
    | false =>
      obtain ⟨b1, b2, b3, b4⟩ := back f4
      exact ⟨n4, vals, acc, b1, b2, b3, Nat.le_succ_of_le la, hb, b4⟩
    | true =>
      refine ⟨c.pin l, A', n4, ρ', _, e4.fr f4, hb, fun v r n5 H5 ⟨y, ey, hw⟩ f5 o5 => ?_⟩
      obtain ⟨b1, b2, b3, b4⟩ := back (f4.trans f5)
      have ry := o5.dat (e4.fr f4) ey
      have ll : vals.length < sizeLine := big_lt (by rw [rv.length]; omega)
      refine ⟨vals, b2, ll, ?_⟩
      have ry1 : Rp (msk (c.av A1) H5) v y := ry.ex fun b o _ e => by
        obtain ⟨h1, h2⟩ := msk_some e
        rw [msk_out]
        · exact h2
        · rintro (z | ⟨j, z⟩)
          · exact h1 (.inl z)
          · by_cases hj : j ∈ sl
            · rw [vA1 j (hsl j hj)] at z
              cases z
            · exact h1 (.inr ⟨j, by rw [(o4 j hj).2]; exact z⟩)
      have mk : msk (c.av A1) (upd H5 D (.lst (vals ++ [v]))) = msk (c.av A1) H5 := by
        funext b
        by_cases z : c.av A1 b
        · unfold msk
          rw [if_pos z, if_pos z]
        · rw [msk_out z, msk_out z, upd_ne (fun e => z (by rw [e]; exact avD))]
      have m1 := b1.mut (r := .un) (u := .lst (vals ++ [v])) hA1 b2 (.inl ⟨_, rfl⟩) (fun ps z => by cases z) True.intro (fun z => by omega)
      rw [List.set_eq_of_length_le hk] at m1
      refine ⟨n5, vals ++ [v], acc ++ [y], m1, upd_same, by rw [mk]; exact b3.app (.one ry1), by rw [List.length_append]; show acc.length + 1 ≤ _; omega, hw, fun b o p q e => ?_⟩
      rw [upd_ne (fun z => by rw [z, hD] at e; cases e)]
      exact b4 b o p q e
  · have z : i = ds.length := by omega
    subst z
    refine .inl ⟨qD.2, ?_⟩
    have fE : Fr c n2 H1 H2 := ⟨kp, e2.g⟩
    refine k _ _ n2 H2 (wd acc n2 w) (f1.trans fE) ⟨D, vals, rfl, (Fresh.of hD).fr f1, hv, rv.ex fun b o _ e => ?_⟩
    obtain ⟨h1, h2⟩ := msk_some e
    rw [msk_out]
    · exact h2
    · rintro ((z | ⟨j, z⟩) | z)
      · exact h1 (.inl z)
      · by_cases e : j = kD
        · rw [e, hAk] at z
          cases z
        · exact h1 (.inr ⟨j, by rw [sameA j e]; exact z⟩)
      · exact h1 (by rw [z]; exact avD)
end

/-! ### data readings: defs, operators, built-ins -/
section
variable [Fam] [Tabz]
theorem VsOk.get {t : V} {B : Addr → Prop} {H H' : Hp} : ∀ {vs : List V} {rs : List DV} {i : Nat} {r : DV}, VsOk t B H H' vs rs → rs[i]? = some r → ∃ v, vs[i]? = some v ∧ VOk t B H v H' r ∧ r.cold = r
  | _, _, _, _, .nil, e => by simp at e
  | _, _, 0, _, .cons h ec _, e => by
    simp at e
    subst e
    exact ⟨_, rfl, h, ec⟩
  | _, _, i + 1, r, .cons _ _ t, e => by
    obtain ⟨v, h1, h2⟩ := VsOk.get (i := i) (r := r) t (by simpa using e)
    exact ⟨v, by simpa using h1, h2⟩
theorem VsOk.length {t : V} {B : Addr → Prop} {H H' : Hp} : ∀ {vs : List V} {rs : List DV}, VsOk t B H H' vs rs → vs.length = rs.length
  | _, _, .nil => rfl
  | _, _, .cons _ _ t => by
    show _ + 1 = _ + 1
    rw [VsOk.length t]
section
variable {P : Program} {w : World} {K : PySem.W.Frag} {mg : Str → Option Value} {base : Heap}
theorem okD {x qual : Str} {st : Stmt} {f : Addr} {fd : FuncData} {N ps : List Str} {k : Nat} {F : DS} {m : DM} (Fn : Fun K x qual st f fd) (S : FnScope N ps (defScope st)) (len : ∀ rs n Q, m rs n Q → plainR rs ∧ rs.length = ps.length)
    (body : ∀ (cdv : Value) (A : Around) (outer : List Env) (s : Shared) (H : Hp) (E : XK), Room k (A.deeper (PyProof.Rows.envOfC qual (defScope st) s.heap.objs.size f cdv)) → PSs (cxOf CX0 P w K mg base N qual (defScope st) f cdv A outer s H E).nox (defBody st) (sD F))
    (data : ∀ rs n Q, m rs n Q → F { nx := fun _ n => Q (.d .none) n, rt := Q } (rs ++ List.replicate (N.length - rs.length) .un) n) : FnOk P w K mg base CX0 (k + 1) f fd ps (spD m) := by
  refine Fn.ok S (fun vs H Q E ⟨c, n, rs, Q', h0, g, pn, ok, hm, _⟩ => ?_) (fun cdv A outer s H vs Q E hr ⟨c, n, rs, Q', h0, g, pn, ok, hm, kk⟩ => ⟨_, body cdv A outer s H E hr, c, fun _ => none, n, _, { nx := fun _ n => Q' (.d .none) n, rt := Q' }, ?_, data rs n Q' hm, ?_⟩)
  · rw [ok.length]
    exact (len _ _ _ hm).2
  · subst h0
    have av : ∀ {b : Addr}, c.av (fun _ => none) b → c.B b := fun {b} z => z.elim id fun ⟨i, e⟩ => by cases e
    have xt : Xt (msk c.B c.H0) (msk (c.av fun _ => none) c.H0) := fun b o _ e => by
      obtain ⟨h1, h2⟩ := msk_some e
      rw [msk_out fun z => h1 (av z)]
      exact h2
    refine ⟨fun b o _ _ e => e, g, fun i a e => (by cases e), fun i a e => (by cases e), fun i j a e => (by cases e), fun i y e => ?_, ?_, fun p hp => (by rw [pn] at hp; cases hp), ⟨0, fun _ _ => rfl⟩, fun i a y e => (by cases e)⟩
    · by_cases hi : i < rs.length
      · rw [List.getElem?_append_left hi] at e
        obtain ⟨v, h1, h2, h3⟩ := ok.get e
        have hs : (L2.start N vs)[i]? = some (some v) := by
          unfold L2.start
          rw [List.getElem?_append_left (by rw [List.length_map, ok.length]; exact hi), List.getElem?_map, h1]
          rfl
        rw [hs]
        cases y with
        | un => exact h2.elim
        | raw v => exact h2.elim
        | tape => 
          refine ⟨?_, h2.2⟩
          rw [show v = c.t from h2.1]
        | d z => exact ⟨v, rfl, Rp.ex h2 xt⟩
        | own ds => cases h3
        | dic kvs => 
          rcases (len _ _ _ hm).1 _ (List.mem_of_getElem? e) with ⟨d, q⟩ | q <;> cases q
      · rw [List.getElem?_append_right (by omega), List.getElem?_replicate] at e
        split at e
        · cases e
          exact True.intro
        · cases e
    · unfold L2.start
      rw [List.length_append, List.length_append, List.length_map, List.length_replicate, List.length_replicate, ok.length]
  · subst h0
    refine ⟨fun A n σ H' ρ h e => ?_, fun v r n H' h fr o => kk v r n H' h fr o, fun A n σ H ρ h e => h.elim, fun A n σ H ρ h e => h.elim⟩
    exact kk .non _ n H' h e.fr0 Rp.non
end
theorem yes_le (σ : L2.St) (H : Hp) (Q : Bool → Hp → Prop) (q : tDT dYes σ H Q) : tYes σ H Q := by
  obtain ⟨c, A, n, ρ, Q', E, hf, k⟩ := q
  exact k true n H hf (.refl E.g)
theorem set_le2 {i : Nat} {f : DF} {te : TE} (h : ∀ σ H Q, tD f σ H Q → te σ H Q) (D : Ends) (σ : L2.St) (H : Hp) (q : sD (dSet i f) D σ H) : tAsg te (gName i) D σ H := by
  obtain ⟨c, A, n, ρ, E, e, hf, L⟩ := q
  refine h _ _ _ ⟨c, A, n, ρ, _, e, hf, fun v r n1 H1 ⟨hi, h1⟩ f1 o1 => ?_⟩
  obtain ⟨A', e'⟩ := e.put f1 o1 hi
  exact L.nx _ _ _ _ _ h1 e'
/-- ints -/
def opI (g : Int → Int → PyData) : PyData → PyData → Option DV
  | .int a, .int b => some (.d (g a b))
  | _, _ => none
theorem r2I {g : Int → Int → V} {g' : Int → Int → PyData} (h : ∀ i j, datC (g i j) = some (g' i j)) : R2D (rI0 g) (opI g') := by
  intro t B H v w a b z Q _ ra rb e k
  cases ra <;> cases rb <;> cases e
  exact ⟨_, _, rfl, rfl, k _ H (fun _ _ h => h) (datC_rp (h _ _))⟩
def opIc (C : Int → Int → Bool) (g : Int → Int → PyData) : PyData → PyData → Option DV
  | .int a, .int b => if C a b = true then some (.d (g a b)) else none
  | _, _ => none
theorem r2Ic {C : Int → Int → Prop} {Cb : Int → Int → Bool} (hC : ∀ i j, Cb i j = true → C i j) {g : Int → Int → V} {g' : Int → Int → PyData} (h : ∀ i j, datC (g i j) = some (g' i j)) : R2D (rI C g) (opIc Cb g') := by
  intro t B H v w a b z Q _ ra rb e k
  cases ra <;> cases rb <;> simp only [opIc, reduceCtorEq] at e
  split at e
  · cases e
    exact ⟨_, _, rfl, rfl, hC _ _ (by assumption), k _ H (fun _ _ h => h) (datC_rp (h _ _))⟩
  · cases e
abbrev opAdd := opI fun i j => .int (i + j)
abbrev opSub := opI fun i j => .int (i - j)
abbrev opLt := opI fun i j => .bool (decide (i < j))
abbrev opLe := opI fun i j => .bool (decide (i ≤ j))
abbrev opGt := opI fun i j => .bool (decide (j < i))
abbrev opGe := opI fun i j => .bool (decide (j ≤ i))
theorem r2Add : R2D (rI0 fun i j => .int (i + j)) opAdd := r2I fun _ _ => rfl
theorem r2Sub : R2D (rI0 fun i j => .int (i - j)) opSub := r2I fun _ _ => rfl
theorem r2Lt : R2D (rI0 fun i j => .bl (decide (i < j))) opLt := r2I fun _ _ => rfl
theorem r2Le : R2D (rI0 fun i j => .bl (decide (i ≤ j))) opLe := r2I fun _ _ => rfl
theorem r2Gt : R2D (rI0 fun i j => .bl (decide (j < i))) opGt := r2I fun _ _ => rfl
theorem r2Ge : R2D (rI0 fun i j => .bl (decide (j ≤ i))) opGe := r2I fun _ _ => rfl
instance (i j : Int) : Decidable (CMulW i j) := inferInstanceAs (Decidable (_ < _))
instance (i j : Int) : Decidable (CDivW i j) := inferInstanceAs (Decidable (_ ∧ _))
abbrev opMul := opIc (fun i j => decide (CMulW i j)) fun i j => .int (i * j)
theorem r2Mul : R2D (rI CMulW fun i j => .int (i * j)) opMul := r2Ic (fun _ _ h => of_decide_eq_true h) fun _ _ => rfl
abbrev opDiv := opIc (fun i j => decide (CDivW i j)) fun i j => .int (i / j)
theorem r2Div : R2D (rI CDivW fun i j => .int (i / j)) opDiv := r2Ic (fun _ _ h => of_decide_eq_true h) fun _ _ => rfl
abbrev opMod := opIc (fun _ j => decide (0 < j)) fun i j => .int (i % j)
theorem r2Mod : R2D (rI (fun _ j => 0 < j) fun i j => .int (i % j)) opMod := r2Ic (fun _ _ h => of_decide_eq_true h) fun _ _ => rfl
instance (i j : Int) : Decidable (CPow i j) := inferInstanceAs (Decidable (_ ∧ _))
abbrev opPow := opIc (fun i j => decide (CPow i j)) fun i j => .int (i ^ j.toNat)
theorem r2Pow : R2D (rI CPow fun i j => .int (i ^ j.toNat)) opPow := r2Ic (fun _ _ h => of_decide_eq_true h) fun _ _ => rfl
def opNeg : PyData → Option DV
  | .int a => some (.d (.int (-a)))
  | _ => none
theorem r1Neg : R1D (rU fun i => .int (-i)) opNeg := by
  intro t B H v a z Q _ ra e k
  cases ra <;> cases e
  exact ⟨_, rfl, k _ H (fun _ _ h => h) (Rp.int _)⟩
/-- ==, != of what is no list: None, truths, ints, texts -/
def sEq : PyData → PyData → Option Bool
  | .none, .none => some true
  | .none, .int _ => some false
  | .int _, .none => some false
  | .none, .bool _ => some false
  | .bool _, .none => some false
  | .none, .str _ => some false
  | .str _, .none => some false
  | .int a, .int b => some (decide (a = b))
  | .bool a, .bool b => some (decide (a = b))
  | .str a, .str b => some (decide (a = b))
  | _, _ => none
def opEq : PyData → PyData → Option DV := fun a b => (sEq a b).map fun c => .d (.bool c)
def opNe : PyData → PyData → Option DV := fun a b => (sEq a b).map fun c => .d (.bool (!c))
theorem sEq_ok {M : Hp} {v w : V} {a b : PyData} {c : Bool} (ra : Rp M v a) (rb : Rp M w b) (e : sEq a b = some c) : scal v w = true ∧ decide (v = w) = c := by
  cases ra <;> cases rb <;> cases e <;> refine ⟨rfl, ?_⟩ <;> first | rfl | (simp)
theorem r2Eq : R2D rEq opEq := by
  intro t B H v w a b z Q _ ra rb e k
  unfold opEq at e
  cases q : sEq a b with
  | none => rw [q] at e; cases e
  | some c =>
    rw [q] at e
    cases e
    obtain ⟨h1, h2⟩ := sEq_ok ra rb q
    refine ⟨h1, k _ H (fun _ _ h => h) ?_⟩
    rw [h2]
    exact Rp.bl c
theorem r2Ne : R2D rNe opNe := by
  intro t B H v w a b z Q _ ra rb e k
  unfold opNe at e
  cases q : sEq a b with
  | none => rw [q] at e; cases e
  | some c =>
    rw [q] at e
    cases e
    obtain ⟨h1, h2⟩ := sEq_ok ra rb q
    refine ⟨h1, k _ H (fun _ _ h => h) ?_⟩
    rw [h2]
    exact Rp.bl _
/-- ==, !=, in of data of any depth -/
def opEqD : PyData → PyData → Option DV := fun a b => if SeqAt.shaped a = true ∧ SeqAt.shaped b = true then some (.d (.bool (PyData.eqv a b))) else none
def opNeD : PyData → PyData → Option DV := fun a b => if SeqAt.shaped a = true ∧ SeqAt.shaped b = true then some (.d (.bool (!PyData.eqv a b))) else none
theorem up_msk {K : PySem.W.Frag} {B : Addr → Prop} {H : Hp} {v : V} {a : PyData} (r : Rp (msk B H) v a) : Dp K H v a := (r.ex msk_le).dp
theorem r2EqD {K : PySem.W.Frag} : R2D (rEqD K) opEqD := by
  intro t B H v w a b z Q _ ra rb e k
  unfold opEqD at e
  split at e
  · rename_i h
    cases e
    exact ⟨a, b, up_msk ra, up_msk rb, h.1, h.2, k _ H (fun _ _ h => h) (Rp.bl _)⟩
  · cases e
theorem r2NeD {K : PySem.W.Frag} : R2D (rNeD K) opNeD := by
  intro t B H v w a b z Q _ ra rb e k
  unfold opNeD at e
  split at e
  · rename_i h
    cases e
    exact ⟨a, b, up_msk ra, up_msk rb, h.1, h.2, k _ H (fun _ _ h => h) (Rp.bl _)⟩
  · cases e
def opIn (neg : Bool) : PyData → PyData → Option DV := fun a b => match b with
  | .list ds => if SeqAt.shaped a = true ∧ SeqAt.shaped (.list ds) = true then some (.d (.bool (if neg then !ds.any fun z => PyData.eqv z a else ds.any fun z => PyData.eqv z a))) else none
  | _ => none
theorem r2In {K : PySem.W.Frag} : R2D (rInD K) (opIn false) := by
  intro t B H v w a b z Q _ ra rb e k
  cases rb <;> simp only [opIn, reduceCtorEq] at e
  split at e
  · rename_i h1 h2 h
    cases e
    exact ⟨a, _, up_msk ra, (Rp.lst h1 h2 |> fun r => up_msk r), h.1, h.2, k _ H (fun _ _ h => h) (Rp.bl _)⟩
  · cases e
theorem r2NotIn {K : PySem.W.Frag} : R2D (rNotInD K) (opIn true) := by
  intro t B H v w a b z Q _ ra rb e k
  cases rb <;> simp only [opIn, reduceCtorEq] at e
  split at e
  · rename_i h1 h2 h
    cases e
    exact ⟨a, _, up_msk ra, (Rp.lst h1 h2 |> fun r => up_msk r), h.1, h.2, k _ H (fun _ _ h => h) (Rp.bl _)⟩
  · cases e
def isN : PyData → Bool
  | .none => true
  | _ => false
def opIsN (neg : Bool) : PyData → PyData → Option DV := fun a b => match b with
  | .none => some (.d (.bool (if neg then !isN a else isN a)))
  | _ => none
theorem isN_ok {M : Hp} {v : V} {a : PyData} (r : Rp M v a) : decide (v = .non) = isN a := by
  cases r <;> rfl
theorem r2IsN : R2D (fun x y H Q => y = .non ∧ Q (.bl (decide (x = .non))) H) (opIsN false) := by
  intro t B H v w a b z Q _ ra rb e k
  cases rb <;> cases e
  refine ⟨rfl, ?_⟩
  rw [isN_ok ra]
  exact k _ H (fun _ _ h => h) (Rp.bl _)
theorem r2NotN : R2D (fun x y H Q => y = .non ∧ Q (.bl (!decide (x = .non))) H) (opIsN true) := by
  intro t B H v w a b z Q _ ra rb e k
  cases rb <;> cases e
  refine ⟨rfl, ?_⟩
  rw [isN_ok ra]
  exact k _ H (fun _ _ h => h) (Rp.bl _)
/-- items -/
theorem RpA.atI {M : Hp} {vs : List V} {ds : List PyData} {i : Int} {d : PyData} (r : RpA M vs ds) (e : atI ds i = some d) : ∃ v, atI vs i = some v ∧ Rp M v d := by
  unfold L2.atI at e ⊢
  rw [r.length]
  cases q : ixN ds.length i with
  | none => rw [q] at e; cases e
  | some j =>
    rw [q] at e
    exact r.get e
def opIxL : PyData → PyData → Option DV
  | .list ds, .int i => (atI ds i).map .d
  | _, _ => none
def opIxT : PyData → PyData → Option DV
  | .tuple ds, .int i => (atI ds i).map .d
  | _, _ => none
theorem r2IxL {K : PySem.W.Frag} : R2D (rIxL K) opIxL := by
  intro t B H v w a b z Q _ ra rb e k
  cases ra <;> cases rb <;> simp only [opIxL, reduceCtorEq] at e
  rename_i h1 h2 i
  cases q : atI _ i with
  | none => rw [q] at e; cases e
  | some d =>
    rw [q] at e
    cases e
    obtain ⟨u, e1, r1⟩ := h2.atI q
    exact ⟨_, _, i, u, rfl, rfl, SqL.of (msk_some h1).2, e1, k _ H (fun _ _ h => h) r1⟩
theorem r2IxT {K : PySem.W.Frag} : R2D (rIxT K) opIxT := by
  intro t B H v w a b z Q _ ra rb e k
  cases ra <;> cases rb <;> simp only [opIxT, reduceCtorEq] at e
  rename_i h1 h2 i
  cases q : atI _ i with
  | none => rw [q] at e; cases e
  | some d =>
    rw [q] at e
    cases e
    obtain ⟨u, e1, r1⟩ := h2.atI q
    exact ⟨_, _, i, u, rfl, rfl, SqT.of (msk_some h1).2, e1, k _ H (fun _ _ h => h) r1⟩
/-- a new list of what lists hold -/
theorem new_own {t : V} {B : Addr → Prop} {H : Hp} {p : Addr} {vs : List V} {ds : List PyData} (hp : H p = none) (h : RpA (msk B H) vs ds) : VOk t B H (.ref p) (upd H p (.lst vs)) (.own ds) := by
  refine ⟨p, vs, rfl, .of hp, upd_same, h.ex fun b o _ e => ?_⟩
  obtain ⟨h1, h2⟩ := msk_some e
  have ne : b ≠ p := ne_of_none h2 hp
  rw [msk_out (fun z => z.elim h1 ne), upd_ne ne]
  exact h2
theorem new_tup {t : V} {B : Addr → Prop} {H : Hp} {p : Addr} {vs : List V} {ds : List PyData} (hB : ∀ b, B b → ∃ o, H b = some o) (hp : H p = none) (h : RpA (msk B H) vs ds) : VOk t B H (.ref p) (upd H p (.tup vs)) (.d (.tuple ds)) := by
  refine .tup (by rw [msk_out fun z => by obtain ⟨o, e⟩ := hB p z; rw [hp] at e; cases e]; exact upd_same) (h.ex fun b o _ e => ?_)
  obtain ⟨h1, h2⟩ := msk_some e
  rw [msk_out h1, upd_ne (ne_of_none h2 hp)]
  exact h2
def opCat : PyData → PyData → Option DV
  | .list a, .list b => if a.length + b.length ≤ 200000 then some (.own (a ++ b)) else none
  | _, _ => none
theorem r2Cat : R2D rCat opCat := by
  intro t B H v w a b z Q _ ra rb e k
  cases ra <;> cases rb <;> simp only [opCat, reduceCtorEq] at e
  rename_i h1 h2 _ _ _ h3 h4
  split at e
  · rename_i hz
    cases e
    refine ⟨_, _, _, _, rfl, rfl, (msk_some h1).2, (msk_some h3).2, ?_, fun p hp => k _ _ (same_new hp) (new_own hp (h2.app h4))⟩
    rw [h2.length, h4.length]
    exact Nat.le_trans hz (by decide)
  · cases e
/-- built-ins over data -/
def bLen : List PyData → Option DV
  | [.list ds] => some (.d (.int (ds.length : Nat)))
  | [.tuple ds] => some (.d (.int (ds.length : Nat)))
  | _ => none
theorem rsLen {K : PySem.W.Frag} : RsD (fun xs H Q => ∃ p ys, xs = [.ref p] ∧ (SqL K H p ys ∨ SqT K H p ys) ∧ Q (.int ys.length) H) bLen := by
  intro t B H vs as z Q _ r e k
  cases r with
  | nil => cases e
  | cons r t =>
    cases t with
    | cons _ _ => cases r <;> cases e
    | nil =>
      cases r <;> cases e
      · rename_i h1 h2
        refine ⟨_, _, rfl, .inl (SqL.of (msk_some h1).2), k _ H (fun _ _ h => h) ?_⟩
        rw [h2.length]
        exact Rp.int _
      · rename_i h1 h2
        refine ⟨_, _, rfl, .inr (SqT.of (msk_some h1).2), k _ H (fun _ _ h => h) ?_⟩
        rw [h2.length]
        exact Rp.int _
def bList : List PyData → Option DV
  | [.list ds] => some (.own ds)
  | [.tuple ds] => some (.own ds)
  | _ => none
theorem rsList {K : PySem.W.Frag} : RsD (fun xs H Q => ∃ p ys, xs = [.ref p] ∧ (SqL K H p ys ∨ SqT K H p ys) ∧ ∀ l, H l = none → Q (.ref l) (upd H l (.lst ys))) bList := by
  intro t B H vs as z Q _ r e k
  cases r with
  | nil => cases e
  | cons r t =>
    cases t with
    | cons _ _ => cases r <;> cases e
    | nil =>
      cases r <;> cases e
      · rename_i h1 h2
        exact ⟨_, _, rfl, .inl (SqL.of (msk_some h1).2), fun l hl => k _ _ (same_new hl) (new_own hl h2)⟩
      · rename_i h1 h2
        exact ⟨_, _, rfl, .inr (SqT.of (msk_some h1).2), fun l hl => k _ _ (same_new hl) (new_own hl h2)⟩
/-- the ints of a list -/
def intsOf : List PyData → Option (List Int)
  | [] => some []
  | .int i :: ds => (intsOf ds).map (i :: ·)
  | _ => none
theorem ints_of {M : Hp} : ∀ {vs : List V} {ds : List PyData} {ns : List Int}, RpA M vs ds → intsOf ds = some ns → vs = ns.map V.int
  | _, _, _, .nil, e => by cases e; rfl
  | _, _, ns, .cons r t, e => by
    cases r <;> simp only [intsOf, reduceCtorEq] at e
    cases q : intsOf _ with
    | none => rw [q] at e; cases e
    | some ms =>
      rw [q] at e
      cases e
      rw [ints_of t q]
      rfl
def bSum : List PyData → Option DV
  | [.list ds] => (intsOf ds).map fun ns => .d (.int ns.sum)
  | _ => none
theorem rsSum {K : PySem.W.Frag} : RsD (rSum K) bSum := by
  intro t B H vs as z Q _ r e k
  cases r with
  | nil => cases e
  | cons r t =>
    cases t with
    | cons _ _ => cases r <;> cases e
    | nil =>
      cases r <;> simp only [bSum, reduceCtorEq] at e
      rename_i a xs ds h1 h2
      cases q : intsOf ds with
      | none => rw [q] at e; cases e
      | some ns =>
        rw [q] at e
        cases e
        refine ⟨_, ns, rfl, ?_, k _ H (fun _ _ h => h) (Rp.int _)⟩
        rw [← ints_of h2 q]
        exact SqL.of (msk_some h1).2
def b2I (g : Int → Int → Int) : List PyData → Option DV
  | [.int a, .int b] => some (.d (.int (g a b)))
  | _ => none
theorem rs2I {g : Int → Int → Int} : RsD (fun xs H Q => ∃ i j, xs = [.int i, .int j] ∧ Q (.int (g i j)) H) (b2I g) := by
  intro t B H vs as z Q _ r e k
  cases r with
  | nil => cases e
  | cons r t =>
    cases t with
    | nil => cases r <;> cases e
    | cons q t =>
      cases t with
      | cons _ _ => cases r <;> cases q <;> cases e
      | nil =>
        cases r <;> cases q <;> cases e
        exact ⟨_, _, rfl, k _ H (fun _ _ h => h) (Rp.int _)⟩
abbrev bMax2 := b2I fun i j => if j > i then j else i
abbrev bMin2 := b2I fun i j => if j < i then j else i
def bAbs : List PyData → Option DV
  | [.int a] => some (.d (.int (if a < 0 then -a else a)))
  | _ => none
theorem rsAbs : RsD (fun xs H Q => ∃ i, xs = [.int i] ∧ Q (.int (if i < 0 then -i else i)) H) bAbs := by
  intro t B H vs as z Q _ r e k
  cases r with
  | nil => cases e
  | cons r t =>
    cases t with
    | cons _ _ => cases r <;> cases e
    | nil =>
      cases r <;> cases e
      exact ⟨_, rfl, k _ H (fun _ _ h => h) (Rp.int _)⟩

/-! ### contracts -/
def plainOf : List DV → Option (List PyData)
  | [] => some []
  | .d x :: rs => (plainOf rs).map (x :: ·)
  | _ => none
theorem plainOf_R : ∀ {rs : List DV} {ds : List PyData}, plainOf rs = some ds → plainR rs ∧ rs.length = ds.length
  | [], _, e => by cases e; exact ⟨fun r h => (by cases h), rfl⟩
  | .d x :: rs, ds, e => by
    unfold plainOf at e
    cases q : plainOf rs with
    | none => rw [q] at e; cases e
    | some es =>
      rw [q] at e
      cases e
      obtain ⟨h1, h2⟩ := plainOf_R q
      refine ⟨fun r h => ?_, by show rs.length + 1 = es.length + 1; rw [h2]⟩
      rcases List.mem_cons.mp h with z | z
      · exact .inl ⟨x, z⟩
      · exact h1 r z
  | .un :: _, _, e => by cases e
  | .tape :: _, _, e => by cases e
  | .raw _ :: _, _, e => by cases e
  | .own _ :: _, _, e => by cases e
  | .dic _ :: _, _, e => by cases e
/-- a def of k data that tells what g tells -/
def mP (k : Nat) (g : List PyData → Option DV) : DM := fun rs n Q => ∃ ds, plainOf rs = some ds ∧ ds.length = k ∧ ∃ z, g ds = some z ∧ Q z n
theorem lP {k : Nat} {g : List PyData → Option DV} : ∀ rs n Q, mP k g rs n Q → plainR rs ∧ rs.length = k := fun rs n Q ⟨ds, e, h, _⟩ => ⟨(plainOf_R e).1, (plainOf_R e).2.trans h⟩
/-- a def of a tape and k data -/
def tapeOf : List DV → Option (List PyData)
  | .tape :: rs => plainOf rs
  | _ => none
def mT (k : Nat) (g : List PyData → Int → DQ → Prop) : DM := fun rs n Q => ∃ ds, tapeOf rs = some ds ∧ ds.length = k ∧ g ds n Q
theorem lT {k : Nat} {g : List PyData → Int → DQ → Prop} : ∀ rs n Q, mT k g rs n Q → plainR rs ∧ rs.length = k + 1 := fun rs n Q ⟨ds, e, h, _⟩ => by
  cases rs with
  | nil => cases e
  | cons r rs =>
    cases r <;> first | cases e; done | skip
    have e' : plainOf rs = some ds := e
    obtain ⟨h1, h2⟩ := plainOf_R e'
    refine ⟨fun r hr => ?_, by show rs.length + 1 = _; rw [h2, h]⟩
    rcases List.mem_cons.mp hr with z | z
    · exact .inr z
    · exact h1 r z
/-- a list, a dict of one's own is told -/
theorem psRetOwn {X : Cx} {i : Nat} {e : Expr} {pos : Pos} (h : PE X e (tVar i)) : PS X (.Return (some e) pos) (sD fun E ρ n => ∃ r, ρ[i]? = some r ∧ r.isOwn = true ∧ E.rt r n) := (ps_ret h).imp fun D σ H ⟨c, A, n, ρ, E, e, ⟨r, h1, h2, h3⟩, L⟩ => by
  have q := e.slot i _ h1
  have xt : ∀ a, A i = some a → Xt (msk (c.av A) H) (msk (fun b => c.B b ∨ b = a) H) := fun a ha b o _ e' => by
    obtain ⟨g1, g2⟩ := msk_some e'
    rw [msk_out]
    · exact g2
    · rintro (z | z)
      · exact g1 (.inl z)
      · exact g1 (.inr ⟨i, by rw [z]; exact ha⟩)
  cases r with
  | un => cases h2
  | tape => cases h2
  | raw v => cases h2
  | d x => cases h2
  | own ds =>
    obtain ⟨a, vs, g1, g2, g3, g4⟩ := q
    exact ⟨_, g2, L.rt _ _ n H h3 e.fr0 ⟨a, vs, rfl, e.new i a g1, g3, g4.ex (xt a g1)⟩⟩
  | dic kvs =>
    obtain ⟨a, vs, g1, g2, g3, g4⟩ := q
    exact ⟨_, g2, L.rt _ _ n H h3 e.fr0 ⟨a, vs, rfl, e.new i a g1, g3, g4.ex (xt a g1)⟩⟩
/-- a, b = e1, e2 -/
def dPar (i j : Nat) (g : DA) : DS := fun E ρ n => g ρ n fun rs n1 => ∃ x y, rs = [.d x, .d y] ∧ i < ρ.length ∧ j < ρ.length ∧ E.nx ((ρ.set i (.d x)).set j (.d y)) n1
theorem psPar {X : Cx} {i j : Nat} {g : DA} {st : Stmt} (h : PS X st (tPar i j (tDA g))) : PS X st (sD (dPar i j g)) := h.imp fun D σ H ⟨c, A, n, ρ, E, e, hf, L⟩ => by
  refine ⟨c, A, n, ρ, _, e, hf, fun vs rs n1 H1 ⟨x, y, er, hi, hj, h1⟩ f1 o1 => ?_⟩
  subst er
  cases o1 with
  | @cons v _ vs _ hv _ t =>
    cases t with
    | @cons w _ ws _ hw _ t =>
      cases t
      refine ⟨v, w, rfl, ?_⟩
      have e1 := (e.fr f1).pins (l := [(w, y)]) fun p hp => by rw [List.mem_singleton.mp hp]; exact hw
      have e2 := e1.putD (i := i) (v := v) (d := x) hv hi
      have hw2 := e2.pinned (p := (w, y)) (List.mem_singleton.mpr rfl)
      exact L.nx _ _ _ _ _ h1 (e2.unpin.putD (i := j) hw2 (by rw [List.length_set]; exact hj))
def dPar3 (i j l : Nat) (g : DA) : DS := fun E ρ n => g ρ n fun rs n1 => ∃ x y z, rs = [.d x, .d y, .d z] ∧ i < ρ.length ∧ j < ρ.length ∧ l < ρ.length ∧ E.nx (((ρ.set i (.d x)).set j (.d y)).set l (.d z)) n1
theorem psPar3 {X : Cx} {i j l : Nat} {g : DA} {st : Stmt} (h : PS X st (tPar3 i j l (tDA g))) : PS X st (sD (dPar3 i j l g)) := h.imp fun D σ H ⟨c, A, n, ρ, E, e, hf, L⟩ => by
  refine ⟨c, A, n, ρ, _, e, hf, fun vs rs n1 H1 ⟨x, y, z, er, hi, hj, hl, h1⟩ f1 o1 => ?_⟩
  subst er
  cases o1 with
  | @cons v _ vs _ hv _ t =>
    cases t with
    | @cons w _ ws _ hw _ t =>
      cases t with
      | @cons u _ us _ hu _ t =>
        cases t
        refine ⟨v, w, u, rfl, ?_⟩
        have e1 := (e.fr f1).pins (l := [(w, y), (u, z)]) fun p hp => by
          rcases List.mem_cons.mp hp with q | q
          · rw [q]; exact hw
          · rw [List.mem_singleton.mp q]; exact hu
        have e2 := e1.putD (i := i) (v := v) (d := x) hv hi
        have hw2 := e2.pinned (p := (w, y)) List.mem_cons_self
        have e3 := e2.putD (i := j) hw2 (by rw [List.length_set]; exact hj)
        have hu2 := e3.pinned (p := (u, z)) (List.mem_cons_of_mem _ List.mem_cons_self)
        exact L.nx _ _ _ _ _ h1 (e3.unpin.putD (i := l) hu2 (by rw [List.length_set, List.length_set]; exact hl))
end

/-! ### sorted(xs, key=lambda row: (row[3], row[7])), and (-row[3], row[7]) -/
def lamArgs (p : Pos) : Arguments := { posonlyargs := [], args := [{ arg := "row", annotation := none, pos := p }], vararg := none, kwonlyargs := [], kw_defaults := [], kwarg := none, defaults := [] }
def lamScope : Scope := { kind := .function, names := [("row", .local)], isGenerator := false, isCoroutine := false }
def rowAt (k : Int) (p1 p2 p3 : Pos) : Expr := .Subscript (.Name "row" p1) (.Constant (.int k) 0 p2) p3
def keyE (neg : Bool) (p1 p2 p3 p4 p5 p6 p7 p8 : Pos) : Expr := .Tuple [if neg then .UnaryOp .USub (rowAt 3 p1 p2 p3) p4 else rowAt 3 p1 p2 p3, rowAt 7 p5 p6 p7] 0 p8
section
variable {prog : Program} {w : World} {A : Around} {E : Value → Shared → Prop} {s : Shared}
theorem rowAt_ok {q : Str} {L f c' t : Addr} {m : Str → Option Value} {items : Array Value} {k : Int} {j : Nat} {x : Value} {p1 p2 p3 : Pos} {Q : Value → Shared → Prop} (hn : s.heap.Ns L m) (hm : m "row" = some (.ref t)) (ht : PyProof.Rows.IsTup s.heap t items) (h0 : 0 ≤ k) (h63 : k < 2 ^ 63)
    (hj : seqIndex? k items.size = some j) (hx : items[j]? = some x) (h : ∀ tk, Q x { s with toks := tk }) : wpAny (model prog w) A (eval (rowAt k p1 p2 p3) (PySem.W.envX q lamScope L f (.ref c') [])) Q E s := by
  refine PyProof.Rows.Subscript_ (wpAny_Name (wpAny_loadName_local rfl rfl hn hm ?_) (by decide))
  refine wpAny_Constant_int ?_
  exact PyProof.Rows.subscriptTail_builtinR (x := x) (PyProof.Rows.IsTup.typeIs ht) PySem.F.slot_tuple_getitem.lookup
    (PyProof.Rows.getItem_tuple (j := j) (Q := fun r s' => r = x ∧ Q r s') ht (by omega) h63 hj hx ⟨rfl, h _⟩) rfl
def key1 (neg : Bool) (i : Int) : Int := if neg = true then -i else i
theorem keyE_ok {neg : Bool} {q : Str} {L f c' t : Addr} {m : Str → Option Value} {items : Array Value} {i j : Int} {ti tj : Tok} {p1 p2 p3 p4 p5 p6 p7 p8 : Pos} {Q : Value → Shared → Prop} (hn : s.heap.Ns L m) (hm : m "row" = some (.ref t)) (ht : PyProof.Rows.IsTup s.heap t items) (hz : items.size = 8)
    (h3 : items[3]? = some (.int i ti)) (h7 : items[7]? = some (.int j tj))
    (h : ∀ tk u, Q (.ref s.heap.objs.size) { s with heap := s.heap.push { cls := .type "tuple", data := .seq #[.int (key1 neg i) u, .int j tj] }, toks := tk }) :
    wpAny (model prog w) A (eval (keyE neg p1 p2 p3 p4 p5 p6 p7 p8) (PySem.W.envX q lamScope L f (.ref c') [])) Q E s := by
  refine wpAny_Tuple_spliced ?_
  have last : ∀ {tk : Nat} {R : List Value → Shared → Prop}, (∀ tk', R [.int j tj] { s with toks := tk' }) →
      wpAny (model prog w) A (spliced (backTo p8 (starEach [rowAt 7 p5 p6 p7] (PySem.W.envX q lamScope L f (.ref c') [])))) R E { s with toks := tk } := fun {tk R} hR => by
    show wpAny _ _ (spliced ((false, eval (rowAt 7 p5 p6 p7) (PySem.W.envX q lamScope L f (.ref c') [])) :: backTo p8 (starEach [] (PySem.W.envX q lamScope L f (.ref c') [])))) _ _ _
    refine Calls.spliced_cons (rowAt_ok (s := { s with toks := tk }) (j := 7) hn hm ht (by decide) (by decide) (by rw [hz]; rfl) h7 fun tk2 => ?_)
    exact Calls.spliced_nil (hR _)
  cases neg with
  | true =>
    show wpAny _ _ (spliced ((false, eval (.UnaryOp .USub (rowAt 3 p1 p2 p3) p4) (PySem.W.envX q lamScope L f (.ref c') [])) :: backTo p8 (starEach [rowAt 7 p5 p6 p7] (PySem.W.envX q lamScope L f (.ref c') [])))) _ _ _
    refine Calls.spliced_cons (PyProof.Rows.UnaryOp_ (rowAt_ok (j := 3) hn hm ht (by decide) (by decide) (by rw [hz]; rfl) h3 fun tk1 => PyProof.Rows.neg_int ?_))
    exact last fun tk' => ⟨by show 2 ≤ sizeLine; decide, h _ _⟩
  | false =>
    show wpAny _ _ (spliced ((false, eval (rowAt 3 p1 p2 p3) (PySem.W.envX q lamScope L f (.ref c') [])) :: backTo p8 (starEach [rowAt 7 p5 p6 p7] (PySem.W.envX q lamScope L f (.ref c') [])))) _ _ _
    refine Calls.spliced_cons (rowAt_ok (j := 3) hn hm ht (by decide) (by decide) (by rw [hz]; rfl) h3 fun tk1 => ?_)
    exact last fun tk' => ⟨by show 2 ≤ sizeLine; decide, h _ _⟩
/-- the lambda, called with a row -/
theorem lam_key {neg : Bool} {q : Str} {f c' t : Addr} {pm ctv : Value} {items : Array Value} {i j : Int} {ti tj : Tok} {p0 p1 p2 p3 p4 p5 p6 p7 p8 : Pos} (hd : A.depth < recursionLimit) (hlim : s.heap.NoLimit)
    (hf : s.heap.get? f = some (PySem.W.kla_obj "<lambda>" q (lamArgs p0) (keyE neg p1 p2 p3 p4 p5 p6 p7 p8) lamScope [] pm c' ctv)) (hrec : s.heap.CodeRec (.ref c') q) (ht : PyProof.Rows.IsTup s.heap t items) (hz : items.size = 8)
    (h3 : items[3]? = some (.int i ti)) (h7 : items[7]? = some (.int j tj)) :
    wpAny (model prog w) A (call (.ref f) [.ref t]) (PySem.W.KeyPure (.tuple [.int (key1 neg i), .int j]) s) (fun _ _ => False) s := by
  refine wpAny_call (PySem.W.kla_callFunE hd hf rfl rfl rfl rfl hrec ?_)
  have hb : bindArgs (PySem.W.kla_fn "<lambda>" q (lamArgs p0) (keyE neg p1 p2 p3 p4 p5 p6 p7 p8) lamScope [] pm (.ref c') ctv) ⟨[.ref t], []⟩ = pure [(("row" : Str), Value.ref t)] := by first | rfl | with_unfolding_all rfl | kernel_rfl
  rw [hb]
  refine wpAny_pure (wpAny_newFunctionEnv (scope := lamScope) (by decide +kernel) (fun y hy => by rw [List.mem_singleton.mp hy]; rfl) (fun h₁ hns hsb => ⟨hlim.fresh _ hsb, ?_⟩) rfl)
  show codeAny _ _ (.expr (keyE neg p1 p2 p3 p4 p5 p6 p7 p8) (PySem.W.envX q lamScope s.heap.objs.size f (.ref c') [])) _ _
  have kp : ∀ b o, s.heap.get? b = some o → h₁.get? b = some o := fun b o e => hsb.extBut b o (Nat.ne_of_lt (Heap.lt_size e)) (Heap.get?_push_of_some _ e)
  refine PySem.W.kla_codeExpr ?_
  refine keyE_ok (items := items) (i := i) (j := j) hns rfl (ht.keeps kp) hz h3 h7 fun tk u => ?_
  have kp2 : ∀ b o, s.heap.get? b = some o → (h₁.push { cls := .type "tuple", data := .seq #[.int (key1 neg i) u, .int j tj] } : Heap).get? b = some o := fun b o e => Heap.get?_push_of_some _ (kp b o e)
  refine ⟨_, _, rfl, kp2, ?_⟩
  exact Reads.tuple (Heap.get?_push_size _ rfl) rfl rfl (.cons (.int _ _) (.cons (.int _ _) .nil))
end
def rowLe (neg : Bool) (kk : V → Int × Int) : V → V → Bool := fun p q => decide (key1 neg (kk p).1 < key1 neg (kk q).1 ∨ (key1 neg (kk p).1 = key1 neg (kk q).1 ∧ (kk p).2 ≤ (kk q).2))
theorem extN_L {K : PySem.W.Frag} {H H' : Hp} {a : Addr} {xs : List V} (e : LamX.ExtN H H') (h : SqL K H a xs) : SqL K H' a xs := by
  rcases h with (h | ⟨o, h⟩) | h
  · exact .inl (.inl (e _ _ h fun ps z => by cases z))
  · exact .inl (.inr ⟨o, e _ _ h fun ps z => by cases z⟩)
  · exact .inr h
theorem extN_T {K : PySem.W.Frag} {H H' : Hp} {a : Addr} {xs : List V} (e : LamX.ExtN H H') (h : SqT K H a xs) : SqT K H' a xs := by
  rcases h with (h | ⟨o, h⟩) | h
  · exact .inl (.inl (e _ _ h fun ps z => by cases z))
  · exact .inl (.inr ⟨o, e _ _ h fun ps z => by cases z⟩)
  · exact .inr h
theorem each_of : ∀ {xs : List V} {us : List Value}, Vals xs us → PySem.W.EachIs (fun v x => RelV x v) us xs
  | _, _, .nil => .nil
  | _, _, .cons r t => .cons r (each_of t)
theorem vals_of : ∀ {us : List Value} {xs : List V}, PySem.W.EachIs (fun v x => RelV x v) us xs → Vals xs us
  | _, _, .nil => .nil
  | _, _, .cons r t => .cons r (vals_of t)
/-- what a row's lambda asks of the rows, what is told -/
def tSortLam (K : PySem.W.Frag) (T : List (Addr × Str)) (neg : Bool) (te : TE) : TE := fun σ H Q => te σ H fun x H1 => ∃ (a : Addr) (xs : List V) (kk : V → Int × Int), x = .ref a ∧ SqL K H1 a xs ∧
  (∀ y ∈ xs, ∃ t ws, y = .ref t ∧ SqT K H1 t ws ∧ ws.length = 8 ∧ ws[3]? = some (.int (kk y).1) ∧ ws[7]? = some (.int (kk y).2)) ∧ LamX.Tabs T H1 ∧
  ∀ H2 p, LamX.ExtN H1 H2 → LamX.Tabs T H2 → H2 p = none → Q (.ref p) (upd H2 p (.lst (xs.mergeSort (rowLe neg kk))))
theorem pe_sortLam {X : Cx} {T : List (Addr × Str)} {c P : Addr} {neg : Bool} {e : Expr} {te : TE} {p pos lpos kpos p0 p1 p2 p3 p4 p5 p6 p7 p8 : Pos} (hg : Gl X "sorted") (hm : X.mg "sorted" = none) (TB : LamX.TabB X.base X.mg c P) (hcode : X.env.code = .ref c)
    (hmT : (P, X.env.qual ++ "<lambda>") ∈ T) (hu : ∀ p ∈ T, p.1 = P → p.2 = X.env.qual ++ "<lambda>") (hr : Room 1 X.A) (he : PE X e te)
    (hst : backTo pos (starEach [e] X.env) = (false, eval e X.env) :: backTo pos (starEach [] X.env) := by rfl) (hpl : (backTo pos (starEach [e] X.env)).any (·.1) = false := by rfl) :
    PE X (.Call (.Name "sorted" p) [e] [⟨some "key", .Lambda (lamArgs p0) (keyE neg p1 p2 p3 p4 p5 p6 p7 p8) lamScope lpos, kpos⟩] pos) (tSortLam X.K T neg te) := by
  refine ⟨fun pins s σ H Q I h => ?_⟩
  refine wpAny_Call_Name_kw (ld_blt I hg hm (by decide +kernel : bootBuiltins "sorted" = some (.builtin "sorted")) ?_ (by decide) (by decide))
  refine PyProof.Rows.callWith_kw (kws := [⟨some "key", .Lambda (lamArgs p0) (keyE neg p1 p2 p3 p4 p5 p6 p7 p8) lamScope lpos, kpos⟩]) ?_ hst hpl rfl rfl
  rw [hst]
  refine Calls.spliced_cons (thn (he.run pins s σ H _ I h) fun u s1 ⟨x, H1, I1, r1, q1⟩ => Calls.spliced_nil ?_)
  obtain ⟨a, xs, kk, rfl, hs, hk, hT, q⟩ := q1
  obtain rfl : u = Value.ref a := r1
  show wpAny _ _ (evalAll ((do let v ← eval (.Lambda (lamArgs p0) (keyE neg p1 p2 p3 p4 p5 p6 p7 p8) lamScope lpos) X.env; standAt pos; pure v) :: [])) _ _ s1
  refine wpAny_evalAll_cons (wpAny_bind (LamX.lam_make2 I1 TB hcode hmT hu hT rfl (fun y hy e => by rw [List.mem_singleton.mp hy] at e; cases e) fun f c' pm ctv H2 s2 I2 eN T2 hf hfn hfr hco => wpAny_bind (wpAny_standAt (wpAny_pure ?_))))
  refine wpAny_evalAll_nil ?_
  show wpAny _ _ (call (.builtin "sorted") [.ref a] [("key", .ref f)]) _ _ s2
  obtain ⟨its, rv, hl, hz⟩ := I2.list (extN_L eN hs)
  have hun := hr.un
  have hdp := hr.dp
  have hrec : s2.heap.CodeRec (.ref c') (X.env.qual ++ "<lambda>") := by
    obtain ⟨⟨oc, vs, t, h1, h2, h3⟩, _⟩ := I2.hok c' _ hco
    exact ⟨c', oc, vs, t, rfl, h1, h2, h3⟩
  refine PySem.W.sorted_key_data (β := V) (R := fun v x => RelV x v) (b := false) (bs := xs) (vs := its) (fun y => .tuple [.int (key1 neg (kk y).1), .int (kk y).2]) hl.isList (each_of rv) ?_ ?_ hz ?_ (PyProof.Rows.ksk_s1 _ _) (fun _ => PyProof.Rows.ksk_l1 _ _) (fun x => PyProof.Rows.ksk_t1 f x) ?_ ?_
  · intro d hd d' hd'
    obtain ⟨y, _, rfl⟩ := List.mem_map.mp hd
    obtain ⟨y', _, rfl⟩ := List.mem_map.mp hd'
    rfl
  · refine .inl fun d hd => ?_
    obtain ⟨y, _, rfl⟩ := List.mem_map.mp hd
    exact ⟨_, _, rfl⟩
  · intro y hy
    have e : (PyData.tuple [.int (key1 neg (kk y).1), .int (kk y).2]).depth ≤ 10 := by
      simp [PyData.depth, PyData.depthAll]
    omega
  · intro v y hv hy h tk keep
    obtain ⟨t, ws, rfl, ht, hlen, h3, h7⟩ := hk y hy
    obtain rfl : v = Value.ref t := hv
    obtain ⟨its2, rv2, pl, hz2⟩ := I2.tuple (extN_T eN ht)
    obtain ⟨u3, e3, ru3⟩ := rv2.get h3
    obtain ⟨u7, e7, ru7⟩ := rv2.get h7
    obtain ⟨t3, rfl⟩ := ru3
    obtain ⟨t7, rfl⟩ := ru7
    exact lam_key (s := { s2 with heap := h, toks := tk }) (items := its2.toArray) (by show X.A.depth < _; omega) (I2.nolimit.keeps keep) (keep _ _ hf) (hrec.keeps keep) (pl.keeps keep) (by rw [List.size_toArray, ← rv2.length, hlen]) (by simpa using e3) (by simpa using e7)
  · intro out cc h' tk keep fresh hget hlen each
    have e2 : PySem.W.dataLe false (fun y : V => PyData.tuple [.int (key1 neg (kk y).1), .int (kk y).2]) = rowLe neg kk := PySem.W.dataLe_ii (fun y => key1 neg (kk y).1) (fun y => (kk y).2)
    rw [e2] at each
    refine ⟨.ref _, upd H2 (s2.heap.objs.size + 1) (.lst (xs.mergeSort (rowLe neg kk))), I2.laid (t' := tk) keep (Nat.le_succ _) ⟨?_, out, cc, vals_of each, hget⟩, rfl, q H2 _ eN T2 (I2.hok.fresh (Nat.le_succ _))⟩
    rw [List.length_mergeSort]
    exact hz

/-! ### data readings: slices, tuples joined, sorting, calls by keywords -/
section
variable [Fam] [Tabz]
theorem _root_.L2.Room.units65 {k : Nat} {A : Around} (r : Room k A) : A.units + 65 < cLine := by have := r.un; omega
def truD : PyData → Option Bool
  | .none => some false
  | .bool b => some b
  | .int i => some (i != 0)
  | .list ds => some (!ds.isEmpty)
  | .tuple ds => some (!ds.isEmpty)
  | _ => none
def dTru (f : DF) : DT := fun ρ n Q => f ρ n fun r n1 => ∃ a, r.dat = some a ∧ ∃ b, truD a = some b ∧ Q b n1
theorem RpA.empty {M : Hp} {vs : List V} {ds : List PyData} (r : RpA M vs ds) : vs.isEmpty = ds.isEmpty := by
  cases r <;> rfl
theorem ptTru {X : Cx} {a : Expr} {f : DF} (ha : PE X a (tD f)) (he : ∀ whole, isTrue a X.env whole = (do let v ← whole; standAt a.pos; holding [v] (truthy v))) : PT X a (tDT (dTru f)) := (pt_truth ha he).imp fun σ H Q ⟨c, A, n, ρ, Q', E, hf, k⟩ => by
  refine ⟨c, A, n, ρ, _, E, hf, fun v r n1 H1 ⟨a, ea, b, eb, hq⟩ f1 o1 => ⟨b, ?_, k b n1 H1 hq f1⟩⟩
  have rp := o1.dat E ea
  cases rp with
  | non => cases eb; exact rfl
  | bl b => cases eb; exact rfl
  | int i => cases eb; exact rfl
  | str x => cases eb
  | lst h1 h2 =>
    cases eb
    exact .inl ⟨_, SqL.of (msk_some h1).2, by rw [h2.empty]⟩
  | tup h1 h2 =>
    cases eb
    exact .inr (.inl ⟨_, SqT.of (msk_some h1).2, by rw [h2.empty]⟩)
/-- what is told, as data -/
theorem pdCold {X : Cx} {e : Expr} {f : DF} (h : PE X e (tD f)) : PE X e (tD fun ρ n Q => f ρ n fun r n1 => Q r.cold n1) := h.imp fun σ H Q ⟨c, A, n, ρ, Q', E, hf, k⟩ => ⟨c, A, n, ρ, _, E, hf, fun v r n1 H1 hq f1 o1 => k v _ n1 H1 hq f1 (o1.cold E)⟩
/-- two comparisons -/
def dChain (o1 o2 : PyData → PyData → Option DV) (f g h : DF) : DF := fun ρ n Q => f ρ n fun x n1 => g ρ n1 fun y n2 => ∃ a, x.dat = some a ∧ ∃ b, y.dat = some b ∧ ∃ k, o1 a b = some (.d (.bool k)) ∧ if k = true then h ρ n2 fun w n3 => ∃ c, w.dat = some c ∧ ∃ z, o2 b c = some z ∧ Q z n3 else Q (.d (.bool false)) n2
theorem chain_le {r r' : R2} {op op' : PyData → PyData → Option DV} {f g h : DF} (h1 : R2D r op) (h2 : R2D r' op') (σ : L2.St) (H : Hp) (Q : VK) (q : tD (dChain op op' f g h) σ H Q) : tChain r r' (tD f) (tD g) (tD h) σ H Q := by
  obtain ⟨c, A, n, ρ, Q', E, hf, k⟩ := q
  refine ⟨c, A, n, ρ, _, E, hf, fun v x n1 H1 hg f1 o1 => ⟨c, A, n1, ρ, _, E.fr f1, hg, fun w y n2 H2 hz f2 o2 => ?_⟩⟩
  obtain ⟨a, ea, b, eb, kb, ek, hq⟩ := hz
  have E2 := (E.fr f1).fr f2
  have ra := (o1.later E f1 f2).dat E ea
  have rb := o2.dat (E.fr f1) eb
  refine h1 c.t (c.av A) H2 v w a b _ _ (fun b hb => (E2.there hb).imp fun o h => h.1) ra rb ek fun u H3 s o => ?_
  cases o
  refine ⟨kb, rfl, ?_⟩
  have f3 : Fr c n2 H2 H3 := Fr.same E2.g s
  cases kb with
  | false => exact k _ _ n2 H3 hq ((f1.trans f2).trans f3) (Rp.bl false)
  | true =>
    refine ⟨c, A, n2, ρ, _, E2.fr f3, hq, fun w' r n3 H4 ⟨cc, ec, z, ez, h5⟩ f4 o4 => ?_⟩
    have E4 := (E2.fr f3).fr f4
    refine h2 c.t (c.av A) H4 w w' b cc z Q (fun b hb => (E4.there hb).imp fun o h => h.1) ((rb.ex f3.msk).ex f4.msk) (o4.dat (E2.fr f3) ec) ez fun u H5 s5 o5 => ?_
    have f5 : Fr c n3 H4 H5 := Fr.same E4.g s5
    exact k u z n3 H5 h5 (((f1.trans f2).trans f3).trans (f4.trans f5)) (VOk.mono E (((f1.trans f2).trans f3).trans f4) o5)
theorem pdChain {X : Cx} {o o' : CmpOp} {r r' : R2} {op op' : PyData → PyData → Option DV} {a b e : Expr} {f g h : DF} {pos : Pos} (h1 : R2D r op) (h2 : R2D r' op') (ho : OpR X (compareOp o) r) (ho' : OpR X (compareOp o') r') (ha : PE X a (tD f)) (hb : PE X b (tD g)) (hc : PE X e (tD h)) (hm : lastMarks [o, o'] [b, e] = false := by with_unfolding_all rfl) :
    PE X (.Compare a [o, o'] [b, e] pos) (tD (dChain op op' f g h)) := (pe_chain ho ho' ha hb hc hm).imp (chain_le h1 h2)
theorem ptChain {X : Cx} {o o' : CmpOp} {r r' : R2} {op op' : PyData → PyData → Option DV} {a b e : Expr} {f g h : DF} {pos : Pos} (h1 : R2D r op) (h2 : R2D r' op') (ho : OpR X (compareOp o) r) (ho' : OpR X (compareOp o') r') (ha : PE X a (tD f)) (hb : PE X b (tD g)) (hc : PE X e (tD h)) (hm : lastMarks [o, o'] [b, e] = false := by with_unfolding_all rfl) :
    PT X (.Compare a [o, o'] [b, e] pos) (tDT (dTest (dChain op op' f g h))) := (pt_chain ho ho' ha hb hc hm).imp fun σ H Q q => test_le (chain_le h1 h2) σ H Q q
/-- slices -/
abbrev DO := List DV → Int → (Option Int → Int → Prop) → Prop
def tDO (f : DO) : TO := fun σ H Q => ∃ (c : EC) (A : Nat → Option Addr) (n : Int) (ρ : List DV) (Q' : Option Int → Int → Prop), EnvA c A n σ H ρ ∧ f ρ n Q' ∧ ∀ o n' H', Q' o n' → Fr c n' H H' → Q o H'
theorem _root_.L2.PO.imp {X : Cx} {e : Option Expr} {t t' : TO} (h : PO X e t) (i : ∀ σ H Q, t' σ H Q → t σ H Q) : PO X e t' := ⟨fun pins s σ H Q I q => h.run pins s σ H Q I (i σ H Q q)⟩
def dONone : DO := fun _ n Q => Q none n
def dOSome (f : DF) : DO := fun ρ n Q => f ρ n fun r n1 => ∃ i, r = .d (.int i) ∧ Q (some i) n1
theorem poNone {X : Cx} : PO X none (tDO dONone) := po_none.imp fun σ H Q ⟨c, A, n, ρ, Q', E, hf, k⟩ => k none n H hf (.refl E.g)
theorem poSome {X : Cx} {e : Expr} {f : DF} (h : PE X e (tD f)) : PO X (some e) (tDO (dOSome f)) := (po_some h).imp fun σ H Q ⟨c, A, n, ρ, Q', E, hf, k⟩ =>
  ⟨c, A, n, ρ, _, E, hf, fun v r n1 H1 ⟨i, e, hq⟩ f1 o1 => by
    subst e
    cases o1
    exact ⟨i, rfl, k _ n1 H1 hq f1⟩⟩
def cutD (ds : List PyData) (lo hi : Option Int) : List PyData := (ds.drop (HT.sIx ds.length 0 lo)).take (HT.sIx ds.length ds.length hi - HT.sIx ds.length 0 lo)
theorem RpA.cut {M : Hp} {vs : List V} {ds : List PyData} (r : RpA M vs ds) (lo hi : Option Int) : RpA M (cutV vs lo hi) (cutD ds lo hi) := by
  unfold cutV cutD
  rw [r.length]
  exact (r.drop _).take _
def SlD (r : V → Option Int → Option Int → Hp → VK → Prop) (op : PyData → Option Int → Option Int → Option DV) : Prop := ∀ (t : V) (B : Addr → Prop) (H : Hp) (v : V) (a : PyData) (lo hi : Option Int) (z : DV) (Q : VK), (∀ b, B b → ∃ o, H b = some o) → Rp (msk B H) v a → op a lo hi = some z →
  (∀ u H', (∀ p o, H p = some o → H' p = some o) → VOk t B H u H' z → Q u H') → r v lo hi H Q
def dSl (op : PyData → Option Int → Option Int → Option DV) (f : DF) (g h : DO) : DF := fun ρ n Q => f ρ n fun x n1 => g ρ n1 fun lo n2 => h ρ n2 fun hi n3 => ∃ a, x.dat = some a ∧ ∃ z, op a lo hi = some z ∧ Q z n3
theorem pdSl {X : Cx} {r : V → Option Int → Option Int → Hp → VK → Prop} {op : PyData → Option Int → Option Int → Option DV} {e : Expr} {lo hi : Option Expr} {f : DF} {g h : DO} {p2 pos : Pos} (hd : SlD r op) (hr : SlR X r) (he : PE X e (tD f)) (hl : PO X lo (tDO g)) (hu : PO X hi (tDO h)) : PE X (.Subscript e (.Slice lo hi none p2) pos) (tD (dSl op f g h)) := (pe_slice hr he hl hu).imp fun σ H Q ⟨c, A, n, ρ, Q', E, hf, k⟩ => by
  refine ⟨c, A, n, ρ, _, E, hf, fun v x n1 H1 h1 f1 o1 => ⟨c, A, n1, ρ, _, E.fr f1, h1, fun lo n2 H2 h2 f2 => ⟨c, A, n2, ρ, _, (E.fr f1).fr f2, h2, fun hi n3 H3 ⟨a, ea, z, ez, h3⟩ f3 => ?_⟩⟩⟩
  have E3 := ((E.fr f1).fr f2).fr f3
  refine hd c.t (c.av A) H3 v a lo hi z Q (fun b hb => (E3.there hb).imp fun o h => h.1) (((o1.later E f1 f2).later E (f1.trans f2) f3).dat E ea) ez fun u H' s o => ?_
  exact k u z n3 H' h3 (((f1.trans f2).trans f3).trans (Fr.same E3.g s)) (VOk.mono E ((f1.trans f2).trans f3) o)
def opSlL : PyData → Option Int → Option Int → Option DV
  | .list ds, lo, hi => some (.own (cutD ds lo hi))
  | _, _, _ => none
def opSlT : PyData → Option Int → Option Int → Option DV
  | .tuple ds, lo, hi => some (.d (.tuple (cutD ds lo hi)))
  | _, _, _ => none
theorem slLD {K : PySem.W.Frag} : SlD (rSlL K) opSlL := by
  intro t B H v a lo hi z Q _ ra e k
  cases ra <;> cases e
  rename_i h1 h2
  exact ⟨_, _, rfl, SqL.of (msk_some h1).2, fun p hp => k _ _ (same_new hp) (new_own hp (h2.cut lo hi))⟩
theorem slTD {K : PySem.W.Frag} : SlD (rSlA K) opSlT := by
  intro t B H v a lo hi z Q hB ra e k
  cases ra with
  | @tup a xs ds h1 h2 =>
    cases e
    refine ⟨_, _, rfl, SqT.of (msk_some h1).2, fun hw => k _ H (fun _ _ h => h) ?_, fun _ p hp => k _ _ (same_new hp) (new_tup hB hp (h2.cut lo hi))⟩
    rw [h2.length] at hw
    have e : cutD ds lo hi = ds := by
      unfold cutD
      rw [hw.1, hw.2, List.drop_zero, Nat.sub_zero, List.take_length]
    rw [e]
    exact Rp.tup h1 h2
  | _ => cases e
def opCatT : PyData → PyData → Option DV
  | .tuple a, .tuple b => if a.length + b.length ≤ 200000 then some (.d (.tuple (a ++ b))) else none
  | _, _ => none
theorem r2CatT {K : PySem.W.Frag} : R2D (rCatA K) opCatT := by
  intro t B H v w a b z Q hB ra rb e k
  cases ra <;> cases rb <;> simp only [opCatT, reduceCtorEq] at e
  rename_i h1 h2 _ _ _ h3 h4
  split at e
  · rename_i hz
    cases e
    refine ⟨_, _, _, _, rfl, rfl, SqT.of (msk_some h1).2, SqT.of (msk_some h3).2, ?_, fun e => k _ H (fun _ _ h => h) ?_, fun _ e => k _ H (fun _ _ h => h) ?_, fun _ _ p hp => k _ _ (same_new hp) (new_tup hB hp (h2.app h4))⟩
    · rw [h2.length, h4.length]
      exact Nat.le_trans hz (by decide)
    · subst e
      cases h2
      exact Rp.tup h3 h4
    · subst e
      cases h4
      rw [List.append_nil]
      exact Rp.tup h1 h2
  · cases e
/-- x in (..) of data -/
def opInT (neg : Bool) : PyData → PyData → Option DV := fun a b => match b with
  | .tuple ds => if SeqAt.shaped a = true ∧ SeqAt.shaped (.tuple ds) = true then some (.d (.bool (if neg then !ds.any fun z => PyData.eqv z a else ds.any fun z => PyData.eqv z a))) else none
  | _ => none
def rInT (K : PySem.W.Frag) : R2 := fun x y H Q => ∃ d ds, Dp K H x d ∧ Dp K H y (.tuple ds) ∧ SeqAt.shaped d = true ∧ SeqAt.shaped (.tuple ds) = true ∧ Q (.bl (ds.any fun z => PyData.eqv z d)) H
theorem op_inT {X : Cx} (hu : X.A.units + 65 < cLine) : OpR X (PySem.compareOp .In) (rInT X.K) := by
  intro pins s σ H x y v u Q I rx ry h
  obtain ⟨d, ds, hd, he, sd, se, q⟩ := h
  obtain ⟨as, r1⟩ := Dp.reads I d x v hd rx
  obtain ⟨bs, r2⟩ := Dp.reads I (.tuple ds) y u he ry
  exact SeqAt.in_tuple_reads r2 r1 (SeqAt.canLay_of_shaped se) (SeqAt.canLay_of_shaped sd) (PyProof.Rows.room_in_shaped sd hu) ⟨.bl _, H, I, rfl, q⟩
theorem r2InT {K : PySem.W.Frag} : R2D (rInT K) (opInT false) := by
  intro t B H v w a b z Q _ ra rb e k
  cases rb <;> simp only [opInT, reduceCtorEq] at e
  split at e
  · rename_i h1 h2 h
    cases e
    exact ⟨a, _, up_msk ra, (Rp.tup h1 h2 |> fun r => up_msk r), h.1, h.2, k _ H (fun _ _ h => h) (Rp.bl _)⟩
  · cases e
/-- max, min of a list of ints -/
def maxI : List Int → Option Int
  | [] => none
  | i :: is => some (is.foldl max i)
def minI : List Int → Option Int
  | [] => none
  | i :: is => some (is.foldl min i)
theorem foldl_max (is : List Int) : ∀ i : Int, (is.foldl max i ∈ i :: is) ∧ ∀ j ∈ i :: is, j ≤ is.foldl max i := by
  induction is with
  | nil => intro i; exact ⟨List.mem_cons_self, fun j hj => by rw [List.mem_singleton.mp hj]; exact Int.le_refl _⟩
  | cons a is ih =>
    intro i
    obtain ⟨h1, h2⟩ := ih (max i a)
    refine ⟨?_, fun j hj => ?_⟩
    · rcases List.mem_cons.mp h1 with e | e
      · show is.foldl max (max i a) ∈ _
        rw [e]
        by_cases h : i ≤ a
        · rw [show max i a = a by omega]; exact List.mem_cons_of_mem _ List.mem_cons_self
        · rw [show max i a = i by omega]; exact List.mem_cons_self
      · exact List.mem_cons_of_mem _ (List.mem_cons_of_mem _ e)
    · have hm := h2 (max i a) List.mem_cons_self
      show j ≤ is.foldl max (max i a)
      rcases List.mem_cons.mp hj with e | e
      · omega
      · rcases List.mem_cons.mp e with e | e
        · omega
        · exact h2 j (List.mem_cons_of_mem _ e)
theorem foldl_min (is : List Int) : ∀ i : Int, (is.foldl min i ∈ i :: is) ∧ ∀ j ∈ i :: is, is.foldl min i ≤ j := by
  induction is with
  | nil => intro i; exact ⟨List.mem_cons_self, fun j hj => by rw [List.mem_singleton.mp hj]; exact Int.le_refl _⟩
  | cons a is ih =>
    intro i
    obtain ⟨h1, h2⟩ := ih (min i a)
    refine ⟨?_, fun j hj => ?_⟩
    · rcases List.mem_cons.mp h1 with e | e
      · show is.foldl min (min i a) ∈ _
        rw [e]
        by_cases h : i ≤ a
        · rw [show min i a = i by omega]; exact List.mem_cons_self
        · rw [show min i a = a by omega]; exact List.mem_cons_of_mem _ List.mem_cons_self
      · exact List.mem_cons_of_mem _ (List.mem_cons_of_mem _ e)
    · have hm := h2 (min i a) List.mem_cons_self
      show is.foldl min (min i a) ≤ j
      rcases List.mem_cons.mp hj with e | e
      · omega
      · rcases List.mem_cons.mp e with e | e
        · omega
        · exact h2 j (List.mem_cons_of_mem _ e)
def bMaxL : List PyData → Option DV
  | [.list ds] => (intsOf ds).bind fun ns => (maxI ns).map fun m => .d (.int m)
  | _ => none
def bMinL : List PyData → Option DV
  | [.list ds] => (intsOf ds).bind fun ns => (minI ns).map fun m => .d (.int m)
  | _ => none
theorem rsMax {K : PySem.W.Frag} : RsD (rMax K) bMaxL := by
  intro t B H vs as z Q _ r e k
  cases r with
  | nil => cases e
  | cons r t =>
    cases t with
    | cons _ _ => cases r <;> cases e
    | nil =>
      cases r <;> simp only [bMaxL, reduceCtorEq] at e
      rename_i a xs ds h1 h2
      cases q : intsOf ds with
      | none => rw [q] at e; cases e
      | some ns =>
        rw [q] at e
        cases ns with
        | nil => cases e
        | cons i is =>
          cases e
          obtain ⟨m1, m2⟩ := foldl_max is i
          refine ⟨_, i :: is, rfl, ?_, Nat.succ_pos _, fun m hm hm2 => ?_⟩
          · rw [← ints_of h2 q]
            exact SqL.of (msk_some h1).2
          · have : m = is.foldl max i := Int.le_antisymm (m2 m hm) (hm2 _ m1)
            rw [this]
            exact k _ H (fun _ _ h => h) (Rp.int _)
theorem rsMin {K : PySem.W.Frag} : RsD (rMin K) bMinL := by
  intro t B H vs as z Q _ r e k
  cases r with
  | nil => cases e
  | cons r t =>
    cases t with
    | cons _ _ => cases r <;> cases e
    | nil =>
      cases r <;> simp only [bMinL, reduceCtorEq] at e
      rename_i a xs ds h1 h2
      cases q : intsOf ds with
      | none => rw [q] at e; cases e
      | some ns =>
        rw [q] at e
        cases ns with
        | nil => cases e
        | cons i is =>
          cases e
          obtain ⟨m1, m2⟩ := foldl_min is i
          refine ⟨_, i :: is, rfl, ?_, Nat.succ_pos _, fun m hm hm2 => ?_⟩
          · rw [← ints_of h2 q]
            exact SqL.of (msk_some h1).2
          · have : m = is.foldl min i := Int.le_antisymm (hm2 _ m1) (m2 m hm)
            rw [this]
            exact k _ H (fun _ _ h => h) (Rp.int _)
/-- one value is one thing -/
theorem Rp.one {M : Hp} {v : V} {d : PyData} (r : Rp M v d) : ∀ e, Rp M v e → d = e := by
  refine Rp.rec (motive_1 := fun v d _ => ∀ e, Rp M v e → d = e) (motive_2 := fun vs ds _ => ∀ es, RpA M vs es → ds = es) ?_ ?_ ?_ ?_ ?_ ?_ ?_ ?_ r
  · intro e h; cases h; rfl
  · intro b e h; cases h; rfl
  · intro i e h; cases h; rfl
  · intro x e h; cases h; rfl
  · intro a xs ds h _ ih e he
    cases he with
    | lst h' r' =>
      rw [h] at h'
      cases h'
      rw [ih _ r']
    | tup h' r' =>
      rw [h] at h'
      cases h'
  · intro a xs ds h _ ih e he
    cases he with
    | lst h' r' =>
      rw [h] at h'
      cases h'
    | tup h' r' =>
      rw [h] at h'
      cases h'
      rw [ih _ r']
  · intro es h; cases h; rfl
  · intro v vs d ds _ _ h1 h2 es h
    cases h with
    | cons a b => rw [h1 _ a, h2 _ b]
noncomputable def datOf (M : Hp) (v : V) : PyData := open Classical in if h : ∃ d, Rp M v d then h.choose else .none
theorem datOf_eq {M : Hp} {v : V} {d : PyData} (r : Rp M v d) : datOf M v = d := by
  have h : ∃ d, Rp M v d := ⟨d, r⟩
  unfold datOf
  rw [dif_pos h]
  exact h.choose_spec.one _ r
theorem RpA.datOf {M : Hp} : ∀ {vs : List V} {ds : List PyData}, RpA M vs ds → ds = vs.map (datOf M) ∧ ∀ v ∈ vs, Rp M v (Rh.datOf M v)
  | _, _, .nil => ⟨rfl, fun v h => by cases h⟩
  | _, _, .cons r t => by
    obtain ⟨h1, h2⟩ := RpA.datOf t
    refine ⟨by rw [List.map_cons, datOf_eq r, ← h1], fun v hv => ?_⟩
    rcases List.mem_cons.mp hv with e | e
    · rw [e, datOf_eq r]; exact r
    · exact h2 v e
theorem RpA.of_datOf {M : Hp} : ∀ {vs : List V}, (∀ v ∈ vs, Rp M v (Rh.datOf M v)) → RpA M vs (vs.map (Rh.datOf M))
  | [], _ => .nil
  | v :: vs, h => .cons (h v List.mem_cons_self) (RpA.of_datOf fun w hw => h w (List.mem_cons_of_mem _ hw))
/-- a row's price and rank -/
def rowK : PyData → Option (Int × Int)
  | .tuple [_, _, _, .int p, _, _, _, .int k] => some (p, k)
  | _ => none
def leK (neg : Bool) : PyData → PyData → Bool := fun a b => match rowK a, rowK b with
  | some p, some q => decide (key1 neg p.1 < key1 neg q.1 ∨ (key1 neg p.1 = key1 neg q.1 ∧ p.2 ≤ q.2))
  | _, _ => false
def dSortR (neg : Bool) (f : DF) : DF := fun ρ n Q => f ρ n fun r n1 => ∃ ds, r.dat = some (.list ds) ∧ (∀ d ∈ ds, (rowK d).isSome = true) ∧ Q (.own (ds.mergeSort (leK neg))) n1
theorem rowK_parts {M : Hp} {v : V} {d : PyData} {p k : Int} (r : Rp M v d) (e : rowK d = some (p, k)) : ∃ t ws, v = .ref t ∧ M t = some (.tup ws) ∧ ws.length = 8 ∧ ws[3]? = some (.int p) ∧ ws[7]? = some (.int k) := by
  unfold rowK at e
  split at e
  · cases e
    cases r with
    | tup h1 h2 =>
      cases h2 with
      | cons _ t => cases t with
        | cons _ t => cases t with
          | cons _ t => cases t with
            | cons a t => cases t with
              | cons _ t => cases t with
                | cons _ t => cases t with
                  | cons _ t => cases t with
                    | cons b t =>
                      cases t
                      cases a
                      cases b
                      exact ⟨_, _, rfl, h1, rfl, rfl, rfl⟩
  · cases e
theorem sort_own {c : EC} {A : Nat → Option Addr} {n : Int} {σ : L2.St} {H H2 : Hp} {ρ : List DV} (E : EnvA c A n σ H ρ) {xs : List V} {ds : List PyData} {p : Addr} {leV : V → V → Bool} {leP : PyData → PyData → Bool} (ra : RpA (msk (c.av A) H) xs ds)
    (hle : ∀ a ∈ xs, ∀ b ∈ xs, leV a b = leP (datOf (msk (c.av A) H) a) (datOf (msk (c.av A) H) b)) (eN : LamX.ExtN H H2) (hT : LamX.Tabs Tabz.T H2) (hp : H2 p = none) :
    Fr c n H (upd H2 p (.lst (xs.mergeSort leV))) ∧ VOk c.t (c.av A) H (.ref p) (upd H2 p (.lst (xs.mergeSort leV))) (.own (ds.mergeSort leP)) := by
  have fr : Fr c n H (upd H2 p (.lst (xs.mergeSort leV))) := by
    refine ⟨fun b o _ q e => ?_, Fam.mv E.g.1 fun a o e h => ?_, hT.ext (same_new hp)⟩
    · exact same_new hp b o (eN b o e q)
    · obtain ⟨ys, hy⟩ := Fam.ty E.g.1 e
      rw [hy] at h
      cases h
      exact same_new hp _ _ (eN a _ hy fun ps z => by cases z)
  refine ⟨fr, p, _, rfl, fun o e => ?_, upd_same, ?_⟩
  · apply Classical.byContradiction
    intro no
    have := eN p o e fun ps z => no ⟨ps, z⟩
    rw [hp] at this
    cases this
  · obtain ⟨h1, h2⟩ := ra.datOf
    have h3 : RpA (msk (c.av A) H) (xs.mergeSort leV) ((xs.mergeSort leV).map (datOf (msk (c.av A) H))) := RpA.of_datOf fun v hv => h2 v (List.mem_mergeSort.mp hv)
    rw [List.map_mergeSort (s := leP) hle, ← h1] at h3
    refine h3.ex fun b o q e => ?_
    obtain ⟨g1, g2⟩ := msk_some e
    have e2 := eN b o g2 q
    have nb : b ≠ p := fun z => by rw [z, hp] at e2; cases e2
    rw [msk_out fun z => z.elim g1 nb, upd_ne nb]
    exact e2
theorem pdSortR {X : Cx} {e : Expr} {neg : Bool} {f : DF} (h : PE X e (tSortLam X.K Tabz.T neg (tD f))) : PE X e (tD (dSortR neg f)) := h.imp fun σ H Q ⟨c, A, n, ρ, Q', E, hf, k⟩ => by
  refine ⟨c, A, n, ρ, _, E, hf, fun v r n1 H1 ⟨ds, e1, ok, h1⟩ f1 o1 => ?_⟩
  have rp := o1.dat E e1
  have E1 := E.fr f1
  cases rp with
  | @lst a xs _ g1 g2 =>
    obtain ⟨d1, d2⟩ := g2.datOf
    have okx : ∀ y ∈ xs, ∃ pk, rowK (datOf (msk (c.av A) H1) y) = some pk := fun y hy => Option.isSome_iff_exists.mp (ok _ (by rw [d1]; exact List.mem_map.mpr ⟨y, hy, rfl⟩))
    refine ⟨a, xs, fun y => (rowK (datOf (msk (c.av A) H1) y)).getD (0, 0), rfl, SqL.of (msk_some g1).2, fun y hy => ?_, E1.g.2, fun H2 p eN hT hp => ?_⟩
    · obtain ⟨pk, e2⟩ := okx y hy
      obtain ⟨t, ws, e3, e4, e5, e6, e7⟩ := rowK_parts (d2 y hy) e2
      refine ⟨t, ws, e3, SqT.of (msk_some e4).2, e5, ?_, ?_⟩
      · show _ = some (V.int ((rowK (datOf (msk (c.av A) H1) y)).getD (0, 0)).1)
        rw [e2]; exact e6
      · show _ = some (V.int ((rowK (datOf (msk (c.av A) H1) y)).getD (0, 0)).2)
        rw [e2]; exact e7
    · obtain ⟨fr, vo⟩ := sort_own E1 (leP := leK neg) (leV := rowLe neg fun y => (rowK (datOf (msk (c.av A) H1) y)).getD (0, 0)) g2 (fun a ha b hb => by
        obtain ⟨pa, ea⟩ := okx a ha
        obtain ⟨pb, eb⟩ := okx b hb
        unfold rowLe leK
        simp only [ea, eb, Option.getD_some]) eN hT hp
      exact k _ _ n1 _ h1 (f1.trans fr) (VOk.mono E f1 vo)
/-- sorted(xs, key=lambda row: row[7]) -/
def rowR : PyData → Option Int := fun d => (rowK d).map Prod.snd
def leR : PyData → PyData → Bool := fun a b => match rowK a, rowK b with
  | some p, some q => decide (p.2 ≤ q.2)
  | _, _ => false
theorem lam_rank {prog : Program} {w : World} {A : Around} {s : Shared} {q : Str} {f c' t : Addr} {pm ctv : Value} {items : Array Value} {j : Int} {tj : Tok} {p0 p5 p6 p7 : Pos} (hd : A.depth < recursionLimit) (hlim : s.heap.NoLimit)
    (hf : s.heap.get? f = some (PySem.W.kla_obj "<lambda>" q (lamArgs p0) (rowAt 7 p5 p6 p7) lamScope [] pm c' ctv)) (hrec : s.heap.CodeRec (.ref c') q) (ht : PyProof.Rows.IsTup s.heap t items) (hz : items.size = 8)
    (h7 : items[7]? = some (.int j tj)) :
    wpAny (model prog w) A (call (.ref f) [.ref t]) (PySem.W.KeyPure (.int j) s) (fun _ _ => False) s := by
  refine wpAny_call (PySem.W.kla_callFunE hd hf rfl rfl rfl rfl hrec ?_)
  have hb : bindArgs (PySem.W.kla_fn "<lambda>" q (lamArgs p0) (rowAt 7 p5 p6 p7) lamScope [] pm (.ref c') ctv) ⟨[.ref t], []⟩ = pure [(("row" : Str), Value.ref t)] := by first | rfl | with_unfolding_all rfl | kernel_rfl
  rw [hb]
  refine wpAny_pure (wpAny_newFunctionEnv (scope := lamScope) (by decide +kernel) (fun y hy => by rw [List.mem_singleton.mp hy]; rfl) (fun h₁ hns hsb => ⟨hlim.fresh _ hsb, ?_⟩) rfl)
  show codeAny _ _ (.expr (rowAt 7 p5 p6 p7) (PySem.W.envX q lamScope s.heap.objs.size f (.ref c') [])) _ _
  have kp : ∀ b o, s.heap.get? b = some o → h₁.get? b = some o := fun b o e => hsb.extBut b o (Nat.ne_of_lt (Heap.lt_size e)) (Heap.get?_push_of_some _ e)
  refine PySem.W.kla_codeExpr ?_
  refine rowAt_ok (items := items) (j := 7) hns rfl (ht.keeps kp) (by decide) (by decide) (by rw [hz]; rfl) h7 fun tk => ?_
  exact ⟨_, _, rfl, kp, .int _ _⟩
def tSortRk (K : PySem.W.Frag) (T : List (Addr × Str)) (te : TE) : TE := fun σ H Q => te σ H fun x H1 => ∃ (a : Addr) (xs : List V) (kk : V → Int), x = .ref a ∧ SqL K H1 a xs ∧
  (∀ y ∈ xs, ∃ t ws, y = .ref t ∧ SqT K H1 t ws ∧ ws.length = 8 ∧ ws[7]? = some (.int (kk y))) ∧ LamX.Tabs T H1 ∧
  ∀ H2 p, LamX.ExtN H1 H2 → LamX.Tabs T H2 → H2 p = none → Q (.ref p) (upd H2 p (.lst (xs.mergeSort fun a b => decide (kk a ≤ kk b))))
theorem pe_sortRk {X : Cx} {T : List (Addr × Str)} {c P : Addr} {e : Expr} {te : TE} {p pos lpos kpos p0 p5 p6 p7 : Pos} (hg : Gl X "sorted") (hm : X.mg "sorted" = none) (TB : LamX.TabB X.base X.mg c P) (hcode : X.env.code = .ref c)
    (hmT : (P, X.env.qual ++ "<lambda>") ∈ T) (hu : ∀ p ∈ T, p.1 = P → p.2 = X.env.qual ++ "<lambda>") (hr : Room 1 X.A) (he : PE X e te)
    (hst : backTo pos (starEach [e] X.env) = (false, eval e X.env) :: backTo pos (starEach [] X.env) := by rfl) (hpl : (backTo pos (starEach [e] X.env)).any (·.1) = false := by rfl) :
    PE X (.Call (.Name "sorted" p) [e] [⟨some "key", .Lambda (lamArgs p0) (rowAt 7 p5 p6 p7) lamScope lpos, kpos⟩] pos) (tSortRk X.K T te) := by
  refine ⟨fun pins s σ H Q I h => ?_⟩
  refine wpAny_Call_Name_kw (ld_blt I hg hm (by decide +kernel : bootBuiltins "sorted" = some (.builtin "sorted")) ?_ (by decide) (by decide))
  refine PyProof.Rows.callWith_kw (kws := [⟨some "key", .Lambda (lamArgs p0) (rowAt 7 p5 p6 p7) lamScope lpos, kpos⟩]) ?_ hst hpl rfl rfl
  rw [hst]
  refine Calls.spliced_cons (thn (he.run pins s σ H _ I h) fun u s1 ⟨x, H1, I1, r1, q1⟩ => Calls.spliced_nil ?_)
  obtain ⟨a, xs, kk, rfl, hs, hk, hT, q⟩ := q1
  obtain rfl : u = Value.ref a := r1
  show wpAny _ _ (evalAll ((do let v ← eval (.Lambda (lamArgs p0) (rowAt 7 p5 p6 p7) lamScope lpos) X.env; standAt pos; pure v) :: [])) _ _ s1
  refine wpAny_evalAll_cons (wpAny_bind (LamX.lam_make2 I1 TB hcode hmT hu hT rfl (fun y hy e => by rw [List.mem_singleton.mp hy] at e; cases e) fun f c' pm ctv H2 s2 I2 eN T2 hf hfn hfr hco => wpAny_bind (wpAny_standAt (wpAny_pure ?_))))
  refine wpAny_evalAll_nil ?_
  show wpAny _ _ (call (.builtin "sorted") [.ref a] [("key", .ref f)]) _ _ s2
  obtain ⟨its, rv, hl, hz⟩ := I2.list (extN_L eN hs)
  have hun := hr.un
  have hdp := hr.dp
  have hrec : s2.heap.CodeRec (.ref c') (X.env.qual ++ "<lambda>") := by
    obtain ⟨⟨oc, vs, t, h1, h2, h3⟩, _⟩ := I2.hok c' _ hco
    exact ⟨c', oc, vs, t, rfl, h1, h2, h3⟩
  refine PySem.W.sorted_key_data (β := V) (R := fun v x => RelV x v) (b := false) (bs := xs) (vs := its) (fun y => .int (kk y)) hl.isList (each_of rv) ?_ ?_ hz ?_ (PyProof.Rows.ksk_s1 _ _) (fun _ => PyProof.Rows.ksk_l1 _ _) (fun x => PyProof.Rows.ksk_t1 f x) ?_ ?_
  · intro d hd d' hd'
    obtain ⟨y, _, rfl⟩ := List.mem_map.mp hd
    obtain ⟨y', _, rfl⟩ := List.mem_map.mp hd'
    rfl
  · refine .inr fun d hd => ?_
    obtain ⟨y, _, rfl⟩ := List.mem_map.mp hd
    exact ⟨(fun z => by cases z), fun xs z => by cases z⟩
  · intro y hy
    have e : (PyData.int (kk y)).depth ≤ 10 := by
      simp [PyData.depth]
    omega
  · intro v y hv hy h tk keep
    obtain ⟨t, ws, rfl, ht, hlen, h7⟩ := hk y hy
    obtain rfl : v = Value.ref t := hv
    obtain ⟨its2, rv2, pl, hz2⟩ := I2.tuple (extN_T eN ht)
    obtain ⟨u7, e7, ru7⟩ := rv2.get h7
    obtain ⟨t7, rfl⟩ := ru7
    exact lam_rank (s := { s2 with heap := h, toks := tk }) (items := its2.toArray) (by show X.A.depth < _; omega) (I2.nolimit.keeps keep) (keep _ _ hf) (hrec.keeps keep) (pl.keeps keep) (by rw [List.size_toArray, ← rv2.length, hlen]) (by simpa using e7)
  · intro out cc h' tk keep fresh hget hlen each
    have e2 : PySem.W.dataLe false (fun y : V => PyData.int (kk y)) = fun a b => decide (kk a ≤ kk b) := PySem.W.dataLe_int kk
    rw [e2] at each
    refine ⟨.ref _, upd H2 (s2.heap.objs.size + 1) (.lst (xs.mergeSort fun a b => decide (kk a ≤ kk b))), I2.laid (t' := tk) keep (Nat.le_succ _) ⟨?_, out, cc, vals_of each, hget⟩, rfl, q H2 _ eN T2 (I2.hok.fresh (Nat.le_succ _))⟩
    rw [List.length_mergeSort]
    exact hz
def dSort7 (f : DF) : DF := fun ρ n Q => f ρ n fun r n1 => ∃ ds, r.dat = some (.list ds) ∧ (∀ d ∈ ds, (rowK d).isSome = true) ∧ Q (.own (ds.mergeSort leR)) n1
theorem pdSort7 {X : Cx} {e : Expr} {f : DF} (h : PE X e (tSortRk X.K Tabz.T (tD f))) : PE X e (tD (dSort7 f)) := h.imp fun σ H Q ⟨c, A, n, ρ, Q', E, hf, k⟩ => by
  refine ⟨c, A, n, ρ, _, E, hf, fun v r n1 H1 ⟨ds, e1, ok, h1⟩ f1 o1 => ?_⟩
  have rp := o1.dat E e1
  have E1 := E.fr f1
  cases rp with
  | @lst a xs _ g1 g2 =>
    obtain ⟨d1, d2⟩ := g2.datOf
    have okx : ∀ y ∈ xs, ∃ pk, rowK (datOf (msk (c.av A) H1) y) = some pk := fun y hy => Option.isSome_iff_exists.mp (ok _ (by rw [d1]; exact List.mem_map.mpr ⟨y, hy, rfl⟩))
    refine ⟨a, xs, fun y => ((rowK (datOf (msk (c.av A) H1) y)).getD (0, 0)).2, rfl, SqL.of (msk_some g1).2, fun y hy => ?_, E1.g.2, fun H2 p eN hT hp => ?_⟩
    · obtain ⟨pk, e2⟩ := okx y hy
      obtain ⟨t, ws, e3, e4, e5, e6, e7⟩ := rowK_parts (d2 y hy) e2
      refine ⟨t, ws, e3, SqT.of (msk_some e4).2, e5, ?_⟩
      show _ = some (V.int ((rowK (datOf (msk (c.av A) H1) y)).getD (0, 0)).2)
      rw [e2]; exact e7
    · obtain ⟨fr, vo⟩ := sort_own E1 (leP := leR) (leV := fun a b => decide (((rowK (datOf (msk (c.av A) H1) a)).getD (0, 0)).2 ≤ ((rowK (datOf (msk (c.av A) H1) b)).getD (0, 0)).2)) g2 (fun a ha b hb => by
        obtain ⟨pa, ea⟩ := okx a ha
        obtain ⟨pb, eb⟩ := okx b hb
        unfold leR
        simp only [ea, eb, Option.getD_some]) eN hT hp
      exact k _ _ n1 _ h1 (f1.trans fr) (VOk.mono E f1 vo)
/-- f(a, k = b): the values in the def's order -/
def tDK (f : DA) : TA := tDA f
theorem _root_.L2.PK.imp {X : Cx} {kws : List Keyword} {t t' : TA} (h : PK X kws t) (i : ∀ σ H Q, t' σ H Q → t σ H Q) : PK X kws t' := ⟨fun pos pins s σ H Q I q => h.run pos pins s σ H Q I (i σ H Q q)⟩
theorem pkNil {X : Cx} : PK X [] (tDA dNil) := pk_nil.imp fun σ H Q ⟨c, A, n, ρ, Q', E, hf, k⟩ => k [] [] n H hf (.refl E.g) .nil
theorem pkCons {X : Cx} {nm : Option Str} {e : Expr} {kws : List Keyword} {kpos : Pos} {f : DF} {g : DA} (ha : PE X e (tD f)) (hr : PK X kws (tDA g)) : PK X (⟨nm, e, kpos⟩ :: kws) (tDA (dCons f g)) := (pk_cons ha hr).imp fun σ H Q ⟨c, A, n, ρ, Q', E, hf, k⟩ => by
  refine ⟨c, A, n, ρ, _, E, hf, fun v x n1 H1 hg f1 o1 => ⟨c, A, n1, ρ, _, E.fr f1, hg, fun vs rs n2 H2 hq f2 o2 => ?_⟩⟩
  exact k (v :: vs) _ n2 H2 hq (f1.trans f2) (.cons ((o1.later E f1 f2).cold E) (cold_cold _) (o2.mono E f1))
theorem VsOk.later {c : EC} {A : Nat → Option Addr} {n m m' : Int} {σ : L2.St} {H H1 H2 : Hp} {ρ : List DV} (E : EnvA c A n σ H ρ) (f : Fr c m' H H1) (f' : Fr c m H1 H2) : ∀ {vs : List V} {rs : List DV}, VsOk c.t (c.av A) H H1 vs rs → VsOk c.t (c.av A) H H2 vs rs
  | _, _, .nil => .nil
  | _, _, .cons h ec t => .cons (h.later E f f') ec (VsOk.later E f f' t)
/-- how keywords lie: g puts the positional ones and the told ones in the def's order, dflt among them -/
def dCallK (m : DM) (gD : List DV → List DV → List DV) (g h : DA) : DF := fun ρ n Q => g ρ n fun rs n1 => h ρ n1 fun ks n2 => plainR (gD rs ks) ∧ m (gD rs ks) n2 Q
def KwOk (gV : List V → List V → List V) (gD : List DV → List DV → List DV) : Prop := ∀ (t : V) (B : Addr → Prop) (H H' : Hp) (vs zs : List V) (rs ks : List DV), VsOk t B H H' vs rs → VsOk t B H H' zs ks → VsOk t B H H' (gV vs zs) (gD rs ks)
theorem callK_le {m : DM} {gV : List V → List V → List V} {gD : List DV → List DV → List DV} {g h : DA} (hk : KwOk gV gD) (E0 : XK) (σ : L2.St) (H : Hp) (Q : VK) (q : tD (dCallK m gD g h) σ H Q) : tCallK (spD m) gV E0 (tDA g) (tDA h) σ H Q := by
  obtain ⟨c, A, n, ρ, Q', E, hf, k⟩ := q
  refine ⟨c, A, n, ρ, _, E, hf, fun vs rs n1 H1 h1 f1 o1 => ⟨c, A, n1, ρ, _, E.fr f1, h1, fun zs ks n2 H2 ⟨pl, hm⟩ f2 o2 => ?_⟩⟩
  have E2 := (E.fr f1).fr f2
  have oa : VsOk c.t (c.av A) H H2 (gV vs zs) (gD rs ks) := hk _ _ _ _ _ _ _ _ (o1.later E f1 f2) (o2.mono E f1)
  refine ⟨E2.ec, n2, gD rs ks, Q', rfl, E2.g, rfl, VsOk.now (m := n2) E oa pl, hm, fun v r n' H' hq f3 o3 => ?_⟩
  exact k v r n' H' hq ((f1.trans f2).trans f3) (VOk.mono E (f1.trans f2) o3)
theorem pdCallK {X : Cx} {CX : CXT} {k : Nat} {f : Addr} {fd : FuncData} {ps ks : List Str} {gW : List Value → List Value → List Value} {gV : List V → List V → List V} {gD : List DV → List DV → List DV} {m : DM} {x : Str} {p pos : Pos} {e : Expr} {es : List Expr} {kws : List Keyword} {g h : DA} {E0 : XK} (hkw : KwOk gV gD) (F : FnOk X.prog X.w X.K X.mg X.base CX k f fd ps (spD m)) (hr : Room k X.A) (hg : Gl X x) (hm : X.mg x = some (.ref f)) (hk : PySem.W.keepIn X.K (.ref f) = true) (hb : KBinds X.K fd ps ks gW gV) (hx : Passes CX X E0)
    (ha : PA X (e :: es) (tDA g)) (hkws : PK X kws (tDA h)) (hall : (backToKw pos (keywordEach kws X.env)).all (·.1.isSome) = true := by rfl) (hks : (backToKw pos (keywordEach kws X.env)).filterMap (·.1) = ks := by rfl)
    (hdb : (x == ("__debug__" : Str)) = false := by decide) (he : starEach (e :: es) X.env = (false, eval e X.env) :: starEach es X.env := by rfl)
    (hpl : ((backTo pos (starEach (e :: es) X.env)).any (·.1) || (backToKw pos (keywordEach kws X.env)).any (·.1.isNone)) = false := by rfl) :
    PE X (.Call (.Name x p) (e :: es) kws pos) (tD (dCallK m gD g h)) := (pe_callK F hr hg hm hk hb hx ha hkws hall hks hdb he hpl).imp (callK_le hkw E0)
end

/-! ### defs that make lambdas -/
section
variable [Fam] [Tabz] {P : Program} {w : World} {K : PySem.W.Frag} {mg : Str → Option Value} {base : Heap}
/-- a def whose code object is known -/
def FunC (K : PySem.W.Frag) (x qual : Str) (st : Stmt) (f c : Addr) (fd : FuncData) : Prop := ∃ (oc : Value) (od : Option Addr) (kV doc pm : Value) (an : Option Addr) (ct : Value) (osl : Array (Option Value)),
  fd = PySem.W.fnOf x qual (defArgs st) (defBody st) (defScope st) .none kV doc pm an (.ref c) ct ∧ K.lookup f = some ⟨oc, od, .func fd, osl⟩ ∧ PySem.W.codeIn K (.ref c) qual = true
theorem FunC.ok {x qual : Str} {st : Stmt} {f c : Addr} {fd : FuncData} {N ps : List Str} {k : Nat} {sp : Sp} (F : FunC K x qual st f c fd) (S : FnScope N ps (defScope st)) (len : ∀ vs H Q E, sp vs H Q E → vs.length = ps.length)
    (hbody : ∀ (A : Around) (outer : List Env) (s : Shared) (H : Hp) (vs : List V) (Q : VK) (E : XK), Room k (A.deeper (PyProof.Rows.envOfC qual (defScope st) s.heap.objs.size f (.ref c))) → sp vs H Q E →
      ∃ t, PSs (cxOf CX0 P w K mg base N qual (defScope st) f (.ref c) A outer s H E).nox (defBody st) t ∧ t { nx := fun _ H' => Q .non H', rt := Q } (start N vs) H) : FnOk P w K mg base CX0 (k + 1) f fd ps sp := by
  obtain ⟨oc, od, kV, doc, pm, an, ct, osl, rfl, lk, hcd⟩ := F
  refine fn_of lk hcd S len fun A outer s H vs Q E hr hsp => ?_
  obtain ⟨t, h, q⟩ := hbody A outer s H vs Q E hr hsp
  exact ⟨t, h.nox, q⟩
theorem FunC.mk {x qual : Str} {st : Stmt} {f c : Addr} {oc : Value} {od an : Option Addr} {osl : Array (Option Value)} {kV doc pm ct : Value} (l : K.lookup f = some ⟨oc, od, .func (PySem.W.fnOf x qual (defArgs st) (defBody st) (defScope st) .none kV doc pm an (.ref c) ct), osl⟩)
    (h : PySem.W.codeIn K (.ref c) qual = true) : FunC K x qual st f c (PySem.W.fnOf x qual (defArgs st) (defBody st) (defScope st) .none kV doc pm an (.ref c) ct) := ⟨oc, od, kV, doc, pm, an, ct, osl, rfl, l, h⟩
theorem okDC {x qual : Str} {st : Stmt} {f cC : Addr} {fd : FuncData} {N ps : List Str} {k : Nat} {F : DS} {m : DM} (Fn : FunC K x qual st f cC fd) (S : FnScope N ps (defScope st)) (len : ∀ rs n Q, m rs n Q → plainR rs ∧ rs.length = ps.length)
    (body : ∀ (A : Around) (outer : List Env) (s : Shared) (H : Hp) (E : XK), Room k (A.deeper (PyProof.Rows.envOfC qual (defScope st) s.heap.objs.size f (.ref cC))) → PSs (cxOf CX0 P w K mg base N qual (defScope st) f (.ref cC) A outer s H E).nox (defBody st) (sD F))
    (data : ∀ rs n Q, m rs n Q → F { nx := fun _ n => Q (.d .none) n, rt := Q } (rs ++ List.replicate (N.length - rs.length) .un) n) : FnOk P w K mg base CX0 (k + 1) f fd ps (spD m) := by
  refine Fn.ok S (fun vs H Q E ⟨c, n, rs, Q', h0, g, pn, ok, hm, _⟩ => ?_) (fun A outer s H vs Q E hr ⟨c, n, rs, Q', h0, g, pn, ok, hm, kk⟩ => ⟨_, body A outer s H E hr, c, fun _ => none, n, _, { nx := fun _ n => Q' (.d .none) n, rt := Q' }, ?_, data rs n Q' hm, ?_⟩)
  · rw [ok.length]
    exact (len _ _ _ hm).2
  · subst h0
    have av : ∀ {b : Addr}, c.av (fun _ => none) b → c.B b := fun {b} z => z.elim id fun ⟨i, e⟩ => by cases e
    have xt : Xt (msk c.B c.H0) (msk (c.av fun _ => none) c.H0) := fun b o _ e => by
      obtain ⟨h1, h2⟩ := msk_some e
      rw [msk_out fun z => h1 (av z)]
      exact h2
    refine ⟨fun b o _ _ e => e, g, fun i a e => (by cases e), fun i a e => (by cases e), fun i j a e => (by cases e), fun i y e => ?_, ?_, fun p hp => (by rw [pn] at hp; cases hp), ⟨0, fun _ _ => rfl⟩, fun i a y e => (by cases e)⟩
    · by_cases hi : i < rs.length
      · rw [List.getElem?_append_left hi] at e
        obtain ⟨v, h1, h2, h3⟩ := ok.get e
        have hs : (L2.start N vs)[i]? = some (some v) := by
          unfold L2.start
          rw [List.getElem?_append_left (by rw [List.length_map, ok.length]; exact hi), List.getElem?_map, h1]
          rfl
        rw [hs]
        cases y with
        | un => exact h2.elim
        | raw v => exact h2.elim
        | tape => 
          refine ⟨?_, h2.2⟩
          rw [show v = c.t from h2.1]
        | d z => exact ⟨v, rfl, Rp.ex h2 xt⟩
        | own ds => cases h3
        | dic kvs => 
          rcases (len _ _ _ hm).1 _ (List.mem_of_getElem? e) with ⟨d, q⟩ | q <;> cases q
      · rw [List.getElem?_append_right (by omega), List.getElem?_replicate] at e
        split at e
        · cases e
          exact True.intro
        · cases e
    · unfold L2.start
      rw [List.length_append, List.length_append, List.length_map, List.length_replicate, List.length_replicate, ok.length]
  · subst h0
    refine ⟨fun A n σ H' ρ h e => ?_, fun v r n H' h fr o => kk v r n H' h fr o, fun A n σ H ρ h e => h.elim, fun A n σ H ρ h e => h.elim⟩
    exact kk .non _ n H' h e.fr0 Rp.non
end

/-! ### data readings: what laws have in common -/
section
variable [Fam] [Tabz]
inductive Cnd (p : Prop) : Prop
  | mk (a b : True) (h : p) : Cnd p
theorem cnd {p : Prop} (h : p) : Cnd p := ⟨True.intro, True.intro, h⟩
theorem Cnd.get {p : Prop} (c : Cnd p) : p := by
  obtain ⟨_, _, h⟩ := c
  exact h
theorem tapeR {rs : List DV} {ds : List PyData} (h : tapeOf rs = some ds) : plainR rs ∧ rs.length = ds.length + 1 := by
  cases rs with
  | nil => cases h
  | cons r rs =>
    cases r <;> first | cases h; done | skip
    have e' : plainOf rs = some ds := h
    obtain ⟨h1, h2⟩ := plainOf_R e'
    refine ⟨fun r hr => ?_, by show rs.length + 1 = _; rw [h2]⟩
    rcases List.mem_cons.mp hr with z | z
    · exact .inr z
    · exact h1 r z
theorem rp_strs {M : Hp} : ∀ ns : List Str, RpA M (ns.map V.str) (ns.map PyData.str)
  | [] => .nil
  | n :: ns => .cons (.str n) (rp_strs ns)
theorem ixMem {xs : List PyData} {i : Int} (h0 : 0 ≤ i) (h : i < xs.length) : ∃ d ∈ xs, opIxL (.list xs) (.int i) = some (.d d) := by
  obtain ⟨j, rfl⟩ := Int.eq_ofNat_of_zero_le h0
  have hj : j < xs.length := by omega
  refine ⟨xs[j], List.getElem_mem hj, ?_⟩
  show (atI xs (j : Int)).map DV.d = _
  rw [atI_nat (v := xs[j]) (List.getElem?_eq_getElem hj)]
  rfl
theorem ix4 {a b c d : PyData} {w : Int} (h0 : 0 ≤ w) (h : w < 4) : opIxL (.list [a, b, c, d]) (.int w) = some (.d a) ∨ opIxL (.list [a, b, c, d]) (.int w) = some (.d b) ∨ opIxL (.list [a, b, c, d]) (.int w) = some (.d c) ∨ opIxL (.list [a, b, c, d]) (.int w) = some (.d d) := by
  have e : w = 0 ∨ w = 1 ∨ w = 2 ∨ w = 3 := by omega
  rcases e with e | e | e | e <;> subst e
  · exact .inl rfl
  · exact .inr (.inl rfl)
  · exact .inr (.inr (.inl rfl))
  · exact .inr (.inr (.inr rfl))
theorem ix3 {a b c : PyData} {w : Int} (h0 : 0 ≤ w) (h : w < 3) : opIxL (.list [a, b, c]) (.int w) = some (.d a) ∨ opIxL (.list [a, b, c]) (.int w) = some (.d b) ∨ opIxL (.list [a, b, c]) (.int w) = some (.d c) := by
  have e : w = 0 ∨ w = 1 ∨ w = 2 := by omega
  rcases e with e | e | e <;> subst e
  · exact .inl rfl
  · exact .inr (.inl rfl)
  · exact .inr (.inr rfl)
theorem ix2 {a b : PyData} {w : Int} (h0 : 0 ≤ w) (h : w < 2) : opIxL (.list [a, b]) (.int w) = some (.d a) ∨ opIxL (.list [a, b]) (.int w) = some (.d b) := by
  have e : w = 0 ∨ w = 1 := by omega
  rcases e with e | e <;> subst e
  · exact .inl rfl
  · exact .inr rfl
theorem ixS {ns : List Str} {r : Int} (h0 : 0 ≤ r) (h : r < ns.length) : ∃ s ∈ ns, opIxL (.list (ns.map PyData.str)) (.int r) = some (.d (.str s)) := by
  obtain ⟨j, rfl⟩ := Int.eq_ofNat_of_zero_le h0
  have hj : j < ns.length := by omega
  refine ⟨ns[j], List.getElem_mem hj, ?_⟩
  show (atI (ns.map PyData.str) (j : Int)).map DV.d = _
  rw [atI_nat (v := .str ns[j]) (by rw [List.getElem?_map, List.getElem?_eq_getElem hj]; rfl)]
  rfl
def bInt : List PyData → Option DV
  | [.int i] => some (.d (.int i))
  | [.bool true] => some (.d (.int 1))
  | [.bool false] => some (.d (.int 0))
  | _ => none
theorem rsInt : RsD (fun xs H Q => (∃ i, xs = [.int i] ∧ Q (.int i) H) ∨ ∃ k, xs = [.bl k] ∧ Q (.int (if k then 1 else 0)) H) bInt := by
  intro t B H vs as z Q _ r e k
  cases r with
  | nil => cases e
  | cons r t =>
    cases t with
    | cons _ _ =>
      cases r with
      | bl b => cases b <;> cases e
      | _ => cases e
    | nil =>
      cases r with
      | bl b =>
        cases b with
        | true => cases e; exact .inr ⟨_, rfl, k _ H (fun _ _ h => h) (Rp.int _)⟩
        | false => cases e; exact .inr ⟨_, rfl, k _ H (fun _ _ h => h) (Rp.int _)⟩
      | int i => cases e; exact .inl ⟨_, rfl, k _ H (fun _ _ h => h) (Rp.int _)⟩
      | _ => cases e
theorem bInt_dec (p : Prop) [Decidable p] : bInt [.bool (decide p)] = some (.d (.int (if p then 1 else 0))) := by
  by_cases h : p
  · rw [decide_eq_true h, if_pos h]
    rfl
  · rw [decide_eq_false h, if_neg h]
    rfl
/-- a rule or another one -/
theorem callR_or {X : Cx} {f : Value} {r q : List V → Hp → VK → Prop} (h1 : CallR X f r) (h2 : CallR X f q) : CallR X f (fun xs H Q => r xs H Q ∨ q xs H Q) := by
  intro pins s σ H xs us Q I rv h
  rcases h with h | h
  · exact h1 pins s σ H xs us Q I rv h
  · exact h2 pins s σ H xs us Q I rv h
/-- str of an int, of a text -/
def bStr : List PyData → Option DV
  | [.int i] => if i.natAbs.log2 < 1920 then some (.d (.str (Str.ofString (toString i)))) else none
  | [.str a] => some (.d (.str a))
  | _ => none
theorem rsStr : RsD (fun xs H Q => (∃ i, xs = [.int i] ∧ i.natAbs.log2 < 1920 ∧ Q (.str (Str.ofString (toString i))) H) ∨ ∃ a, xs = [.str a] ∧ Q (.str a) H) bStr := by
  intro t B H vs as z Q _ r e k
  cases r with
  | nil => cases e
  | cons r t =>
    cases t with
    | cons _ _ => cases r <;> cases e
    | nil =>
      cases r with
      | int i =>
        have e' : (if i.natAbs.log2 < 1920 then some (DV.d (PyData.str (Str.ofString (toString i)))) else none) = some z := e
        clear e
        split at e'
        · cases e'
          exact .inl ⟨_, rfl, by assumption, k _ H (fun _ _ h => h) (Rp.str _)⟩
        · cases e'
      | str a => cases e; exact .inr ⟨_, rfl, k _ H (fun _ _ h => h) (Rp.str _)⟩
      | _ => cases e
theorem call_strA {X : Cx} : CallR X (.type "str") (fun xs H Q => (∃ i, xs = [.int i] ∧ i.natAbs.log2 < 1920 ∧ Q (.str (Str.ofString (toString i))) H) ∨ ∃ a, xs = [.str a] ∧ Q (.str a) H) := callR_or call_str_int SkE.call_str_str
/-- the texts of a list -/
def strsOf : List PyData → Option (List Str)
  | [] => some []
  | .str i :: ds => (strsOf ds).map (i :: ·)
  | _ => none
theorem strsOf_map : ∀ ys : List Str, strsOf (ys.map PyData.str) = some ys
  | [] => rfl
  | y :: ys => by
    show (strsOf (ys.map PyData.str)).map (y :: ·) = _
    rw [strsOf_map ys]
    rfl
theorem strs_of {M : Hp} : ∀ {vs : List V} {ds : List PyData} {ns : List Str}, RpA M vs ds → strsOf ds = some ns → vs = ns.map V.str
  | _, _, _, .nil, e => by cases e; rfl
  | _, _, ns, .cons r t, e => by
    cases r <;> simp only [strsOf, reduceCtorEq] at e
    cases q : strsOf _ with
    | none => rw [q] at e; cases e
    | some ms =>
      rw [q] at e
      cases e
      rw [strs_of t q]
      rfl
def joinSize (a : Str) (ys : List Str) : Prop := (ys.map (·.length)).sum + ys.length * a.length ≤ 16777216
def dJoin (f g : DF) : DF := fun ρ n Q => f ρ n fun x n1 => ∃ a, x = .d (.str a) ∧ g ρ n1 fun y n2 => ∃ ds, y.dat = some (.list ds) ∧ ∃ ys, strsOf ds = some ys ∧ Cnd (joinSize a ys) ∧ Q (.d (.str (Txt.join a ys))) n2
theorem pdJoin {X : Cx} {e : Expr} {to te : TE} {f g : DF} (h : PE X e (tM1 (fun x xs H Q => ∃ a p, ∃ ys : List Str, x = .str a ∧ xs = [.ref p] ∧ (SqL X.K H p (ys.map V.str) ∨ SqT X.K H p (ys.map V.str)) ∧ (ys.map (·.length)).sum + ys.length * a.length ≤ 16777216 ∧ Q (.str (Txt.join a ys)) H) to te)) (ho : ∀ σ H Q, tD f σ H Q → to σ H Q) (he : ∀ σ H Q, tD g σ H Q → te σ H Q) : PE X e (tD (dJoin f g)) := h.imp fun σ H Q ⟨c, A, n, ρ, Q', E, hf, k⟩ => by
  refine ho _ _ _ ⟨c, A, n, ρ, _, E, hf, fun v x n1 H1 ⟨a, ex, hg⟩ f1 o1 => ?_⟩
  subst ex
  cases o1
  refine ⟨⟨a, rfl⟩, he _ _ _ ⟨c, A, n1, ρ, _, E.fr f1, hg, fun w y n2 H2 ⟨ds, ed, ys, es, hs, hq⟩ f2 o2 => ?_⟩⟩
  have rp := o2.dat (E.fr f1) ed
  cases rp with
  | @lst p xs _ h1 h2 =>
    have ex := strs_of h2 es
    subst ex
    exact ⟨a, p, ys, rfl, rfl, .inl (SqL.of (msk_some h1).2), hs.get, k _ _ n2 H2 hq (f1.trans f2) (Rp.str _)⟩
/-- isinstance(e, T), T a built-in class -/
def tyD : PyData → String
  | .none => "NoneType"
  | .bool _ => "bool"
  | .int _ => "int"
  | .str _ => "str"
  | .list _ => "list"
  | .tuple _ => "tuple"
  | .dict _ => "dict"
def isiB (T : String) (d : PyData) : Bool := match T, d with
  | "int", .bool _ => true
  | "int", .int _ => true
  | "bool", .bool _ => true
  | "str", .str _ => true
  | "list", .list _ => true
  | "tuple", .tuple _ => true
  | _, _ => false
theorem kit_int (a : String) (h : a ∈ ["NoneType", "bool", "int", "str", "list", "tuple"]) : kitB a "int" = some (a == "int" || a == "bool") ∧ kitB a "bool" = some (a == "bool") ∧ kitB a "str" = some (a == "str") ∧ kitB a "list" = some (a == "list") ∧ kitB a "tuple" = some (a == "tuple") := by
  simp only [List.mem_cons, List.not_mem_nil, or_false] at h
  rcases h with rfl | rfl | rfl | rfl | rfl | rfl <;> decide +kernel
def isiOk (T : String) : Prop := T = "int" ∨ T = "bool" ∨ T = "str" ∨ T = "list" ∨ T = "tuple"
theorem kit_d {K : PySem.W.Frag} {T : String} (hT : isiOk T) {d : PyData} (hd : ∀ kvs, d ≠ .dict kvs) : PySem.W.kitOne K (.type (tyD d)) (.type T) = some (isiB T d) := by
  cases d with
  | dict kvs => exact absurd rfl (hd kvs)
  | none => obtain ⟨h1, h2, h3, h4, h5⟩ := kit_int "NoneType" (by decide); rcases hT with e | e | e | e | e <;> subst e <;> exact kit_ty (by assumption)
  | bool b => obtain ⟨h1, h2, h3, h4, h5⟩ := kit_int "bool" (by decide); rcases hT with e | e | e | e | e <;> subst e <;> exact kit_ty (by assumption)
  | int i => obtain ⟨h1, h2, h3, h4, h5⟩ := kit_int "int" (by decide); rcases hT with e | e | e | e | e <;> subst e <;> exact kit_ty (by assumption)
  | str s => obtain ⟨h1, h2, h3, h4, h5⟩ := kit_int "str" (by decide); rcases hT with e | e | e | e | e <;> subst e <;> exact kit_ty (by assumption)
  | list xs => obtain ⟨h1, h2, h3, h4, h5⟩ := kit_int "list" (by decide); rcases hT with e | e | e | e | e <;> subst e <;> exact kit_ty (by assumption)
  | tuple xs => obtain ⟨h1, h2, h3, h4, h5⟩ := kit_int "tuple" (by decide); rcases hT with e | e | e | e | e <;> subst e <;> exact kit_ty (by assumption)
theorem rp_ty {K : PySem.W.Frag} {M H : Hp} {v : V} {d : PyData} (r : Rp M v d) (m : ∀ b o, M b = some o → H b = some o) : TyX K H v (.type (tyD d)) ∧ ∀ kvs, d ≠ .dict kvs := by
  cases r with
  | non => exact ⟨.base .non, fun _ z => by cases z⟩
  | bl b => exact ⟨.base (.bl b), fun _ z => by cases z⟩
  | int i => exact ⟨.base (.int i), fun _ z => by cases z⟩
  | str s => exact ⟨.base (.str s), fun _ z => by cases z⟩
  | lst h _ => exact ⟨.base (.lst (m _ _ h)), fun _ z => by cases z⟩
  | tup h _ => exact ⟨.base (.tup (m _ _ h)), fun _ z => by cases z⟩
def dIsi (T : String) (f : DF) : DF := fun ρ n Q => f ρ n fun r n1 => ∃ d, r.dat = some d ∧ Q (.d (.bool (isiB T d))) n1
theorem pdIsi {X : Cx} {c e : Expr} {p pos : Pos} {T : String} {f : DF} (hT : isiOk T) (hm : X.mg "isinstance" = none) (hg : Gl X "isinstance") (hc : PE X c (tC (.ty T))) (he : PE X e (tD f))
    (hs : starEach (e :: [c]) X.env = (false, eval e X.env) :: starEach [c] X.env := by rfl) (hpl : (backTo pos (starEach [c] X.env)).any (·.1) = false := by rfl) (hs2 : starEach [c] X.env = (false, eval c X.env) :: starEach [] X.env := by rfl) :
    PE X (.Call (.Name "isinstance" p) [e, c] [] pos) (tD (dIsi T f)) := (pe_callB call_isi hg hm (by decide +kernel) (pa_cons he (pa_cons hc pa_nil hs2) hs) (by decide) (by decide) hs hpl).imp fun σ H Q ⟨c, A, n, ρ, Q', E, hf, k⟩ => by
  refine ⟨c, A, n, ρ, _, E, hf, fun v r n1 H1 ⟨d, ed, hq⟩ f1 o1 => ?_⟩
  have rp := o1.dat E ed
  obtain ⟨ty, nd⟩ := rp_ty (K := X.K) (H := H1) rp fun b o h => (msk_some h).2
  exact ⟨v, .ty T, _, _, _, rfl, .ty T, ty, kit_d hT nd, k _ _ n1 H1 hq f1 (Rp.bl _)⟩
/-- a statement, then the rest from a word between them -/
def dCut (F G : DS) : DS := fun E ρ n => ∃ Mid : List DV → Int → Prop, F { E with nx := Mid } ρ n ∧ ∀ ρ n, Mid ρ n → G E ρ n
theorem psCut {X : Cx} {st : Stmt} {rest : List Stmt} {F G : DS} (h : PS X st (sD F)) (h2 : PSs X rest (sD G)) : PSs X (st :: rest) (sD (dCut F G)) := (pss_cons h h2).imp fun D σ H ⟨c, A, n, ρ, E, e, ⟨Mid, hF, hG⟩, L⟩ =>
  ⟨c, A, n, ρ, _, e, hF, fun A n σ H ρ h e' => ⟨c, A, n, ρ, E, e', hG ρ n h, L⟩, L.rt, L.bk, L.ct⟩
theorem mul_big {a b : Int} (ha : a.natAbs < 2 ^ 400) (hb : b.natAbs < 2 ^ 400) : CMulW a b := wide_mul (a := 400) (b := 400) ha hb (by decide) (by decide) (by decide)
end

/-! ### set(xs), sorted(set(xs)), xs a list of ints -/
section
open PySem.Spec PyProof.Rows
variable {P : Program} {w : World} {A : Around} {E : Value → Shared → Prop} {s : Shared}
def nSet (w : World) : Obj := { cls := .type "set", dict := none, data := .set #[] 0 (.fresh 0 0 (!w.params.followText "set-order")) }
def sPush (w : World) (s : Shared) : Heap := s.heap.push (nSet w)
/-- what a new set of these ints leaves -/
def SetMade (w : World) (s : Shared) (ns : List Int) (s2 : Shared) : Prop := ∃ h2 t2 c, s2 = { s with heap := h2, toks := t2 } ∧ SetR w h2 s.heap.objs.size (fun j => decide (j ∈ ns)) c ∧ c ≤ ns.length ∧ ∀ b o, s.heap.get? b = some o → h2.get? b = some o
set_option maxRecDepth 100000 in
set_option maxHeartbeats 3200000 in
theorem call_set_ints {l : Addr} {us : Array Value} {ns : List Int} {Q : Value → Shared → Prop} (hA : A.handled = none) (hl : s.heap.IsList l us) (hu : IntsAre us.toList ns) (few : ns.length + 1 < scanBound)
    (k : ∀ s2, SetMade w s ns s2 → Q (.ref s.heap.objs.size) s2) : wpAny (model P w) A (call (.type "set") [.ref l]) Q E s := by
  have size_us : us.size = ns.length := by
    have z := IntsAre.length hu
    rwa [Array.length_toList] at z
  obtain ⟨mc, mt, hmro⟩ := F.called_set.mro
  have made := F.called_set.made
  have sub := F.called_set.sub
  have noT := F.called_set.notType
  have can := F.called_set.canCreate
  have tc := F.typeCall_set_1 (.ref l)
  refine wpAny_call (codeAny_of_tree ?_)
  show wpAny _ _ (callAny (.type "set") _) _ _ _
  refine wpAny_pure ⟨Code.quiet_builtin _ (by decide +kernel), codeAny_builtin F.entry_type_call ?_⟩
  rw [Around.under_plain (weight_type_call_type "set" [.ref l] []) rfl]
  repeat (any_goals (first | assumption | wp_step))
  refine codeAny_mono (code_set_led1 (.ref l) (E := E) (Q₁ := fun z s1 => z = .ref s.heap.objs.size ∧ s1 = { s with heap := sPush w s }) ⟨rfl, rfl⟩) fun r s1 hr => ?_
  cases r with
  | error e => exact hr
  | ok fl =>
    cases fl with
    | ret z =>
      obtain ⟨rfl, rfl⟩ := hr
      have at0 : (sPush w s).get? s.heap.objs.size = some (nSet w) := Heap.get?_push_size _ rfl
      have ty0 : Shared.TypeIs { s with heap := sPush w s } (.ref s.heap.objs.size) "set" := ⟨_, at0, rfl⟩
      have look := F.called_set.init.lookup
      have bind := F.called_set.init.bind (.ref s.heap.objs.size)
      repeat (any_goals (first | assumption | wp_step))
      refine codeAny_mono (codeAny_call_builtin (R := wants (fun r s2 => r = .none ∧ SetMade w s ns s2) E) F.called_set.init.plain F.entry_set_init (check_set_init_1 ty0 ?_)) fun r2 s2 hr2 => ?_
      · obtain ⟨ol, hol, hcl, nl, hdl⟩ := hl
        obtain ⟨ocls, odict, odata, oslots⟩ := ol
        simp only at hcl hdl
        subst hcl
        subst hdl
        have there := fun {b : Addr} {o : Obj} (e : s.heap.get? b = some o) => (Heap.get?_push_of_some (nSet w) e : (sPush w s).get? b = some o)
        have low : l < s.heap.objs.size := Heap.lt_size hol
        have big : (sPush w s).objs.size = s.heap.objs.size + 1 := Heap.size_push ..
        have lst1 : (sPush w s).IsList l us := ⟨_, there hol, rfl, nl, rfl⟩
        have sub1 := F.sub_list_set
        have sub2 := F.sub_list_frozenset
        have nd : (Value.type "list" == Value.type "dict") = false := by decide
        have thl := there hol
        unfold Builtin.«set.__init__» noKeywords Builtin.Frozenset.updateFrom
        generalize hPI : pyIter = PI
        wp_walk
        subst hPI
        refine wpAny_pyIter_list lst1 ?_
        refine wpAny_bind (wpAny_runValue ?_)
        have hA3 : A.in1.in1.in1.handled = none := by simp [hA]
        have ne1 : l ≠ (sPush w s).objs.size := by rw [big]; exact Nat.ne_of_lt (Nat.lt_succ_of_lt low)
        have ne2 : s.heap.objs.size ∉ [(sPush w s).objs.size, l] := by
          rw [big]
          simp only [List.mem_cons, List.not_mem_nil, or_false, not_or]
          exact ⟨Nat.ne_of_lt (Nat.lt_succ_self _), Nat.ne_of_gt low⟩
        have vals : ∀ (i : Nat) (v : Value), us[i]? = some v → ∃ k t, ns[i]? = some k ∧ v = .int k t := fun i v hv => by
          have hi : i < ns.length := by
            have := (Array.getElem?_eq_some_iff.mp hv).1
            omega
          obtain ⟨t, e⟩ := IntsAre.int_at hu i v (by rw [Array.getElem?_toList]; exact hv)
          exact ⟨ns[i], t, List.getElem?_eq_getElem hi, by rw [e, List.getD_eq_getElem?_getD, List.getElem?_eq_getElem hi]; rfl⟩
        refine set_update_ints ((Walks.list hA3 _ l ne1 us).toS) s.heap.objs.size ne2 ns size_us few vals (us.size - 0) 0 _ (by omega) (Nat.zero_le _) ⟨⟨_, Heap.get?_push_size _ rfl, rfl, rfl⟩, (lst1.push _)⟩ ?start ?after
        case start => exact ⟨0, Nat.le_refl 0, setR_new_at (Heap.get?_push_of_some _ at0)⟩
        case after =>
          intro s3 c mv hc3 hS3
          obtain ⟨h3, g3, d3, t3, o3⟩ := s3
          cases (mv.gens : g3 = s.gens)
          cases (mv.drawn : d3 = s.drawn)
          cases (mv.os : o3 = s.os)
          refine wpAny_pure ?_
          show wpAny _ _ (ret Value.none) _ _ _
          refine wpAny_pure ⟨rfl, h3, t3, c, rfl, hS3, by rw [size_us] at hc3; exact hc3, fun b o e => ?_⟩
          have hb := Heap.lt_size e
          refine mv.heap b o ?_ (Heap.get?_push_of_some _ (there e))
          simp only [List.mem_cons, List.not_mem_nil, or_false, not_or]
          exact ⟨Nat.ne_of_lt hb, by show b ≠ (sPush w s).objs.size; rw [big]; exact Nat.ne_of_lt (Nat.lt_succ_of_lt hb)⟩
      · cases r2 with
        | error e => exact hr2
        | ok fl2 =>
          cases fl2 with
          | ret r =>
            obtain ⟨rfl, hm⟩ := hr2
            have hm2 := hm
            obtain ⟨h2, t2, c, rfl, _⟩ := hm2
            repeat (any_goals (first | assumption | wp_step))
            exact k _ hm
          | _ => exact hr2.elim
    | _ => exact hr.elim
end
section
variable [Fam] [Tabz]
def rSetI (K : PySem.W.Frag) (w : World) : List V → Hp → VK → Prop := fun xs H Q => ∃ (l : Addr) (ns : List Int), xs = [.ref l] ∧ SqL K H l (ns.map V.int) ∧ ns.length ≤ 1000 ∧ ∀ p c, H p = none → c ≤ ns.length → Q (.ref p) (upd H p (SetO w p (fun j => decide (j ∈ ns)) c))
theorem cr_setI {X : Cx} (hc : X.calm = true) : CallR X (.type "set") (rSetI X.K X.w) := by
  intro pins s σ H xs us Q I r h
  obtain ⟨l, ns, rfl, hl, few, q⟩ := h
  rw [Vals.ref1 r]
  obtain ⟨its, rv, pl, hz⟩ := I.list hl
  have iu : PyProof.Rows.IntsAre its.toArray.toList ns := ints_of_vals rv
  refine call_set_ints (I.ok.hd hc) pl.isList iu (by unfold scanBound; omega) fun s2 ⟨h2, t2, c, e, R, hc2, kp⟩ => ?_
  subst e
  exact ⟨.ref s.heap.objs.size, upd H s.heap.objs.size (SetO X.w s.heap.objs.size (fun j => decide (j ∈ ns)) c), I.laid (t' := t2) kp (Nat.le_refl _) (setO_new R), rfl, q _ c (I.hok.fresh (Nat.le_refl _)) hc2⟩
/-- sorted(set(xs)) -/
def dSortSet (f : DF) : DF := fun ρ n Q => f ρ n fun r n1 => ∃ ds, r.dat = some (.list ds) ∧ ∃ ns, intsOf ds = some ns ∧ Cnd (ns.length < 64) ∧ ∀ out : List Int, out.Pairwise (· < ·) → (∀ k, k ∈ out ↔ k ∈ ns) → Q (.own (out.map PyData.int)) n1
theorem rp_intsS {M : Hp} : ∀ ns : List Int, RpA M (ns.map V.int) (ns.map PyData.int)
  | [] => .nil
  | n :: ns => .cons (.int n) (rp_intsS ns)
theorem pdSortSet {X : Cx} {e : Expr} {f : DF} {w : World} (h : PE X e (tCB (rSortedSet w) (tCons (tCB (rSetI X.K w) (tCons (tD f) tNil)) tNil))) : PE X e (tD (dSortSet f)) := h.imp fun σ H Q ⟨c, A, n, ρ, Q', E, hf, k⟩ => by
  refine ⟨c, A, n, ρ, _, E, hf, fun v r n1 H1 ⟨ds, ed, ns, en, cc, hq⟩ f1 o1 => ?_⟩
  have rp := o1.dat E ed
  have E1 := E.fr f1
  have few := cc.get
  cases rp with
  | @lst l xs _ h1 h2 =>
    have ex := ints_of h2 en
    subst ex
    refine ⟨l, ns, rfl, SqL.of (msk_some h1).2, by omega, fun p m np hm => ?_⟩
    refine ⟨p, _, m, rfl, upd_same, by omega, fun out q so mo _ nq => ?_⟩
    have f2 : Fr c n1 H1 (upd H1 p (SetO w p (fun j => decide (j ∈ ns)) m)) := Fr.new E1.g np
    have E2 := E1.fr f2
    have f3 : Fr c n1 (upd H1 p (SetO w p (fun j => decide (j ∈ ns)) m)) (upd (upd H1 p (SetO w p (fun j => decide (j ∈ ns)) m)) q (.lst (out.map V.int))) := Fr.new E2.g nq
    refine k _ _ n1 _ (hq out so fun x => ?_) ((f1.trans f2).trans f3) (VOk.mono E (f1.trans f2) (own_new E2 nq (rp_intsS out)))
    rw [mo x]
    exact decide_eq_true_iff
/-- sorted(xs), xs ints -/
def dSortI (f : DF) : DF := fun ρ n Q => f ρ n fun r n1 => ∃ ds, r.dat = some (.list ds) ∧ ∃ ns, intsOf ds = some ns ∧ ∀ out : List Int, out.Perm ns → out.Pairwise (· ≤ ·) → Q (.own (out.map PyData.int)) n1
theorem pdSortI {X : Cx} {e : Expr} {f : DF} (h : PE X e (tCB (rSortedI X.K) (tCons (tD f) tNil))) : PE X e (tD (dSortI f)) := h.imp fun σ H Q ⟨c, A, n, ρ, Q', E, hf, k⟩ => by
  refine ⟨c, A, n, ρ, _, E, hf, fun v r n1 H1 ⟨ds, ed, ns, en, hq⟩ f1 o1 => ?_⟩
  have rp := o1.dat E ed
  have E1 := E.fr f1
  cases rp with
  | @lst l xs _ h1 h2 =>
    have ex := ints_of h2 en
    subst ex
    exact ⟨l, ns, rfl, SqL.of (msk_some h1).2, fun out p pm so np => k _ _ n1 _ (hq out pm so) (f1.trans (Fr.new E1.g np)) (VOk.mono E f1 (own_new E1 np (rp_intsS out)))⟩
end

/-! ### data readings: looks at one's own in tests; pop within an expression -/
section
variable [Fam] [Tabz]
def dPkT (t : DT) : DT := fun ρ n Q => t (coldD ρ) n Q
theorem ptPk {X : Cx} {e : Expr} {t : DT} (h : PT X e (tDT t)) : PT X e (tDT (dPkT t)) := h.imp fun σ H Q ⟨c, A, n, ρ, Q', E, hf, k⟩ => by
  obtain ⟨A', E'⟩ := E.colds
  exact ⟨c, A', n, _, _, E', hf, k⟩
/-- an expression that changes one's own: what is told is data -/
abbrev DX := List DV → Int → (PyData → List DV → Int → Prop) → Prop
def tX (f : DX) : TE := fun σ H Q => ∃ (c : EC) (A : Nat → Option Addr) (n : Int) (ρ : List DV) (Q' : PyData → List DV → Int → Prop), EnvA c A n σ H ρ ∧ f ρ n Q' ∧
  ∀ v x ρ' n' H', Q' x ρ' n' → EnvA c A n' σ H' ρ' → Rp (msk (c.av A) H') v x → Xt (msk (c.av A) H) (msk (c.av A) H') → Q v H'
/-- xs.pop() -/
def xPop (i : Nat) : DX := fun ρ n Q => ∃ ds d, ρ[i]? = some (.own (ds ++ [d])) ∧ Q d (ρ.set i (.own ds)) n
theorem msk_upd {B : Addr → Prop} {H : Hp} {a : Addr} {o : HO} (h : B a) : msk B (upd H a o) = msk B H := by
  funext b
  by_cases z : B b
  · unfold msk
    rw [if_pos z, if_pos z]
  · rw [msk_out z, msk_out z, upd_ne (fun e => z (by rw [e]; exact h))]
theorem RpA.split {M : Hp} : ∀ {vs : List V} {ds : List PyData} {d : PyData}, RpA M vs (ds ++ [d]) → ∃ ws w, vs = ws ++ [w] ∧ RpA M ws ds ∧ Rp M w d
  | _, [], d, h => by
    cases h with
    | cons r t =>
      cases t
      exact ⟨[], _, rfl, .nil, r⟩
  | _, e :: ds, d, h => by
    cases h with
    | cons r t =>
      obtain ⟨ws, w, e1, h1, h2⟩ := RpA.split t
      exact ⟨_ :: ws, w, by rw [e1]; rfl, .cons r h1, h2⟩
theorem pxPop {X : Cx} {i : Nat} {e : Expr} (h : PE X e (tBM0 X.K "list" rPop (tVar i))) : PE X e (tX (xPop i)) := h.imp fun σ H Q ⟨c, A, n, ρ, Q', E, ⟨ds, d, e1, hq⟩, k⟩ => by
  obtain ⟨a, vs, h1, h2, h3, h4⟩ := E.slot i _ e1
  obtain ⟨ws, w, e2, r1, r2⟩ := h4.split
  subst e2
  refine ⟨_, h2, .inl ⟨rfl, _, SqL.of h3⟩, a, _, w, rfl, rfl, h3, by simp, ?_⟩
  have av : c.av A a := .inr ⟨i, h1⟩
  have dl : (ws ++ [w]).dropLast = ws := by simp
  rw [dl]
  refine k w d _ n _ hq (E.mut h1 h3 (.inl ⟨_, rfl⟩) (fun ps z => by cases z) ⟨a, ws, h1, h2, upd_same, r1⟩ fun _ => rfl) ?_ ?_
  · rw [msk_upd av]
    exact r2
  · rw [msk_upd av]
    exact fun b o _ z => z
def xIx (op : PyData → PyData → Option DV) (f : DX) (g : DF) : DX := fun ρ n Q => f ρ n fun x ρ1 n1 => g ρ1 n1 fun y n2 => ∃ b, y.dat = some b ∧ ∃ z, op x b = some (.d z) ∧ Q z ρ1 n2
theorem pxIx {X : Cx} {r : R2} {op : PyData → PyData → Option DV} {a b : Expr} {f : DX} {g : DF} {pos : Pos} (hd : R2D r op) (hr : IxR X r) (ha : PE X a (tX f)) (hb : PE X b (tD g)) (hs : PlainIx b) : PE X (.Subscript a b pos) (tX (xIx op f g)) := (pe_ix hr ha hb hs).imp fun σ H Q ⟨c, A, n, ρ, Q', E, hf, k⟩ => by
  refine ⟨c, A, n, ρ, _, E, hf, fun v x ρ1 n1 H1 hg E1 rv s1 => ⟨c, A, n1, ρ1, _, E1, hg, fun w y n2 H2 ⟨bd, eb, z, ez, hq⟩ f2 o2 => ?_⟩⟩
  have E2 := E1.fr f2
  refine hd c.t (c.av A) H2 v w x bd (.d z) Q (fun b hb => (E2.there hb).imp fun o h => h.1) (rv.ex f2.msk) (o2.dat E1 eb) ez fun u H3 s3 o3 => ?_
  have f3 : Fr c n2 H2 H3 := Fr.same E2.g s3
  exact k u z ρ1 n2 H3 hq (E2.fr f3) o3 fun b o nt h => f3.msk b o nt (f2.msk b o nt (s1 b o nt h))
def xOp (op : PyData → PyData → Option DV) (f : DF) (g : DX) : DX := fun ρ n Q => f ρ n fun x n1 => ∃ a, x.dat = some a ∧ g ρ n1 fun b ρ2 n2 => ∃ z, op a b = some (.d z) ∧ Q z ρ2 n2
theorem pxOp {X : Cx} {o : Operator} {r : R2} {op : PyData → PyData → Option DV} {a b : Expr} {f : DF} {g : DX} {pos : Pos} (hd : R2D r op) (ho : OpR X (binaryOp o) r) (ha : PE X a (tD f)) (hb : PE X b (tX g)) : PE X (.BinOp a o b pos) (tX (xOp op f g)) := (pe_op ho ha hb).imp fun σ H Q ⟨c, A, n, ρ, Q', E, hf, k⟩ => by
  refine ⟨c, A, n, ρ, _, E, hf, fun v x n1 H1 ⟨ad, ea, hg⟩ f1 o1 => ⟨c, A, n1, ρ, _, E.fr f1, hg, fun w bd ρ2 n2 H2 ⟨z, ez, hq⟩ E2 rw2 s2 => ?_⟩⟩
  refine hd c.t (c.av A) H2 v w ad bd (.d z) Q (fun b hb => (E2.there hb).imp fun o h => h.1) ((o1.dat E ea).ex s2) rw2 ez fun u H3 s3 o3 => ?_
  have f3 : Fr c n2 H2 H3 := Fr.same E2.g s3
  exact k u z ρ2 n2 H3 hq (E2.fr f3) o3 fun b o nt h => f3.msk b o nt (s2 b o nt (f1.msk b o nt h))
/-- (e,), (e, f) -/
def xTup (f : DX) (g : DA) : DX := fun ρ n Q => f ρ n fun x ρ1 n1 => g ρ1 n1 fun rs n2 => ∃ ds, datsOf rs = some ds ∧ ds.length ≤ 1000 ∧ Q (.tuple (x :: ds)) ρ1 n2
theorem pxTup {X : Cx} {e : Expr} {es : List Expr} {f : DX} {g : DA} {pos : Pos} {x1} (h : PE X e (tX f)) (hr : PA X es (tDA g)) (hs : starEach (e :: es) X.env = (false, eval e X.env) :: starEach es X.env := by rfl) : PE X (.Tuple (e :: es) x1 pos) (tX (xTup f g)) := (pe_tup (pa_cons h hr hs)).imp fun σ H Q ⟨c, A, n, ρ, Q', E, hf, k⟩ => by
  refine ⟨c, A, n, ρ, _, E, hf, fun v x ρ1 n1 H1 hg E1 rv s1 => ⟨c, A, n1, ρ1, _, E1, hg, fun vs rs n2 H2 ⟨ds, ed, hl, hq⟩ f2 o2 => ?_⟩⟩
  have r2 := o2.dats E1 ed
  have E2 := E1.fr f2
  refine ⟨big_line (by show vs.length + 1 ≤ 100000; rw [r2.length]; omega), fun p hp => ?_⟩
  have f3 : Fr c n2 H2 (upd H2 p (.tup (v :: vs))) := Fr.new E2.g hp
  exact k _ _ ρ1 n2 _ hq (E2.fr f3) (tup_new E2 hp (.cons (rv.ex f2.msk) r2)) fun b o nt h => f3.msk b o nt (f2.msk b o nt (s1 b o nt h))
/-- y = e, e changes one's own -/
def dSetX (i : Nat) (f : DX) : DS := fun E ρ n => f ρ n fun x ρ1 n1 => i < ρ1.length ∧ E.nx (ρ1.set i (.d x)) n1
theorem psSetX {X : Cx} {i : Nat} {x : Str} {e : Expr} {f : DX} {pos' pos : Pos} (hN : X.N.Nodup) (hi : X.N[i]? = some x) (hx : Loc X.env.scope x) (he : PE X e (tX f)) (hs : swapsWith e (some (.Name x pos')) pos.line X.env = pure false := by rfl) (hf : X.fn x = true ∨ X.env.scope.names.lookup x = some .local := by first | exact .inl rfl | exact .inr rfl | assumption) :
    PS X (.Assign [.Name x pos'] e pos) (sD (dSetX i f)) := (ps_set hN hi hx he hs hf).imp fun D σ H ⟨c, A, n, ρ, E, e, hf, L⟩ =>
  ⟨c, A, n, ρ, _, e, hf, fun v x ρ1 n1 H1 ⟨hi, h1⟩ E1 rv _ => L.nx _ _ _ _ _ h1 (E1.putD rv hi)⟩
end

/-! ### data readings: a dict of one's own, keys ints or texts -/
section
variable [Fam] [Tabz]
theorem hu_of {k : Nat} {A : Around} (hr : Room k A) : A.units + 1 < cLine := by
  have := hr.un
  omega
def kD : Key → PyData
  | .inl i => .int i
  | .inr x => .str x
def valD (kvs : List (Key × PyData)) (k : Key) : Option PyData := (kvs.find? fun kv => decide (kv.1 = k)).map (·.2)
def putKD (kvs : List (Key × PyData)) (k : Key) (d : PyData) : List (Key × PyData) := if (kvs.any fun kv => decide (kv.1 = k)) = true then kvs.map fun kv => if kv.1 = k then (kv.1, d) else kv else kvs ++ [(k, d)]
theorem kD_kV {M : Hp} {v : V} {k : Key} (h : Rp M v (kD k)) : v = kV k := by
  cases k with
  | inl i => cases h; rfl
  | inr x => cases h; rfl
theorem kV_kD {M : Hp} (k : Key) : Rp M (kV k) (kD k) := by
  cases k with
  | inl i => exact .int i
  | inr x => exact .str x
theorem KRp.val {M : Hp} {ws : List (Key × V)} {kvs : List (Key × PyData)} (r : KRp M ws kvs) (k : Key) : (valV ws k = none ∧ valD kvs k = none) ∨ ∃ v d, valV ws k = some v ∧ valD kvs k = some d ∧ Rp M v d := by
  induction r with
  | nil => exact .inl ⟨rfl, rfl⟩
  | @cons j v d ws kvs h _ ih =>
    unfold valV valD at ih ⊢
    rw [List.find?_cons, List.find?_cons]
    by_cases q : j = k
    · rw [decide_eq_true q]
      exact .inr ⟨v, d, rfl, rfl, h⟩
    · rw [decide_eq_false q]
      exact ih
theorem KRp.length {M : Hp} {ws : List (Key × V)} {kvs : List (Key × PyData)} (r : KRp M ws kvs) : ws.length = kvs.length := by
  induction r with
  | nil => rfl
  | cons _ _ ih => exact congrArg Nat.succ ih
theorem KRp.put {M : Hp} {ws : List (Key × V)} {kvs : List (Key × PyData)} (r : KRp M ws kvs) {k : Key} {v : V} {d : PyData} (h : Rp M v d) : KRp M (putK ws k v) (putKD kvs k d) := by
  have ha : (ws.any fun kv => decide (kv.1 = k)) = kvs.any fun kv => decide (kv.1 = k) := by
    induction r with
    | nil => rfl
    | cons _ _ ih => rw [List.any_cons, List.any_cons, ih]
  unfold putK putKD
  rw [ha]
  split
  · rename_i hq; clear hq ha
    induction r with
    | nil => exact .nil
    | @cons j v0 d0 ws kvs h0 _ ih =>
      rw [List.map_cons, List.map_cons]
      by_cases q : j = k
      · rw [if_pos (show (j, v0).1 = k from q), if_pos (show (j, d0).1 = k from q)]
        exact .cons h ih
      · rw [if_neg (show ¬ (j, v0).1 = k from q), if_neg (show ¬ (j, d0).1 = k from q)]
        exact .cons h0 ih
  · rename_i hq; clear hq ha
    induction r with
    | nil => exact .cons h .nil
    | cons h0 _ ih => exact .cons h0 ih
theorem valD_put (kvs : List (Key × PyData)) (k j : Key) (d : PyData) : valD (putKD kvs k d) j = if j = k then some d else valD kvs j := by
  have hany : ∀ l : List (Key × PyData), (l.any fun kv => decide (kv.1 = k)) = false → valD l k = none := fun l => by
    induction l with
    | nil => intro _; rfl
    | cons p l ih =>
      intro h
      rw [List.any_cons, Bool.or_eq_false_iff] at h
      unfold valD at ih ⊢
      rw [List.find?_cons, h.1]
      exact ih h.2
  have hmap : ∀ l : List (Key × PyData), (l.any fun kv => decide (kv.1 = k)) = true → valD (l.map fun kv => if kv.1 = k then (kv.1, d) else kv) j = if j = k then some d else valD l j := fun l => by
    induction l with
    | nil => intro h; cases h
    | cons p l ih =>
      intro h
      rw [List.any_cons] at h
      unfold valD at ih ⊢
      rw [List.map_cons, List.find?_cons, List.find?_cons]
      by_cases q : p.1 = k
      · rw [if_pos q]
        by_cases z : j = k
        · subst z
          rw [if_pos rfl]
          simp [q]
        · rw [if_neg z]
          have z1 : ¬ p.1 = j := fun e => z (e.symm.trans q)
          simp only [decide_eq_false z1]
          by_cases ha : (l.any fun kv => decide (kv.1 = k)) = true
          · have := ih ha
            rw [if_neg z] at this
            exact this
          · have hm : (l.map fun kv => if kv.1 = k then (kv.1, d) else kv) = l := by
              have : ∀ m : List (Key × PyData), (m.any fun kv => decide (kv.1 = k)) = false → (m.map fun kv => if kv.1 = k then (kv.1, d) else kv) = m := fun m => by
                induction m with
                | nil => intro _; rfl
                | cons x m ihm =>
                  intro hx
                  rw [List.any_cons, Bool.or_eq_false_iff] at hx
                  rw [List.map_cons, ihm hx.2, if_neg (of_decide_eq_false hx.1)]
              exact this l ((Bool.not_eq_true _).mp ha)
            rw [hm]
      · rw [if_neg q]
        have ha : (l.any fun kv => decide (kv.1 = k)) = true := by
          rw [decide_eq_false q, Bool.false_or] at h
          exact h
        by_cases z1 : p.1 = j
        · have z : ¬ j = k := fun e => q (z1.trans e)
          rw [if_neg z]
          simp [decide_eq_true z1]
        · simp only [decide_eq_false z1]
          exact ih ha
  unfold putKD
  split
  · rename_i h
    exact hmap kvs h
  · rename_i h
    have h' : (kvs.any fun kv => decide (kv.1 = k)) = false := (Bool.not_eq_true _).mp h
    have hk := hany kvs h'
    unfold valD at hk ⊢
    rw [List.find?_append]
    by_cases z : j = k
    · subst z
      rw [if_pos rfl]
      have : kvs.find? (fun kv => decide (kv.1 = j)) = none := by simpa using hk
      rw [this]
      simp
    · rw [if_neg z]
      have z' : ¬ k = j := fun e => z e.symm
      simp [z']
theorem putKD_len (kvs : List (Key × PyData)) (k : Key) (d : PyData) : (putKD kvs k d).length ≤ kvs.length + 1 := by
  unfold putKD
  split
  · rw [List.length_map]; omega
  · rw [List.length_append]; exact Nat.le_refl _
/-- {} -/
def dDNew : DF := fun _ n Q => Q (.dic []) n
theorem pdDNew {X : Cx} {e : Expr} (h : PE X e tDNewK) : PE X e (tD dDNew) := h.imp fun σ H Q ⟨c, A, n, ρ, Q', E, hf, k⟩ => by
  intro p hp
  refine k (.ref p) _ n _ hf (Fr.new E.g hp) ⟨p, [], rfl, fun o e => ?_, upd_same, .nil⟩
  rw [hp] at e
  cases e
/-- d.get(k, x) -/
def dDGet2 (i : Nat) (f g : DF) : DF := fun ρ n Q => (∃ kvs, ρ[i]? = some (.dic kvs)) ∧ f ρ n fun x n1 => ∃ k : Key, x = .d (kD k) ∧ g ρ n1 fun y n2 => ∃ kvs, ρ[i]? = some (.dic kvs) ∧ ∃ z, y.dat = some z ∧ Q (.d ((valD kvs k).getD z)) n2
theorem pdDGet2 {X : Cx} {o e f : Expr} {apos cpos : Pos} {i : Nat} {fe ff : DF} (hu : X.A.units + 1 < cLine) (ho : PE X o (tVar i)) (he : PE X e (tD fe)) (hf : PE X f (tD ff)) (m : M2 X o "get" apos e f cpos) : PE X (.Call (.Attribute o "get" apos) [e, f] [] cpos) (tD (dDGet2 i fe ff)) := (pe_dget2 hu ho he hf m).imp fun σ H Q ⟨c, A, n, ρ, Q', E, ⟨⟨kvs0, e0⟩, hf⟩, k⟩ => by
  obtain ⟨a, ws, h1, h2, h3, h4⟩ := E.slot i _ e0
  refine ⟨_, h2, a, rfl, .inl ⟨ws, .inl h3⟩, c, A, n, ρ, _, E, hf, fun v x n1 H1 ⟨key, ex, hg⟩ f1 o1 => ⟨c, A, n1, ρ, _, E.fr f1, hg, fun w y n2 H2 ⟨kvs, e1, z, ez, hq⟩ f2 o2 => ?_⟩⟩
  subst ex
  have E2 := (E.fr f1).fr f2
  obtain ⟨a', ws', k1, k2, k3, k4⟩ := E2.slot i _ e1
  rw [h1] at k1
  cases k1
  obtain rfl := kD_kV (show Rp _ v (kD key) from o1)
  refine ⟨valV ws' key, .inl ⟨ws', key, .inl k3, rfl, rfl⟩, ?_⟩
  rcases k4.val key with ⟨q1, q2⟩ | ⟨u, d, q1, q2, rp⟩
  · rw [q2] at hq
    rw [q1]
    exact k w _ n2 H2 hq (f1.trans f2) (o2.dat (E.fr f1) ez)
  · rw [q2] at hq
    rw [q1]
    exact k u _ n2 H2 hq (f1.trans f2) rp
/-- d[k] -/
def dDIx (i : Nat) (f : DF) : DF := fun ρ n Q => (∃ kvs, ρ[i]? = some (.dic kvs)) ∧ f ρ n fun x n1 => ∃ k : Key, x = .d (kD k) ∧ ∃ kvs, ρ[i]? = some (.dic kvs) ∧ ∃ z, valD kvs k = some z ∧ Q (.d z) n1
theorem pdDIx {X : Cx} {o e : Expr} {pos : Pos} {i : Nat} {fe : DF} (h : PE X (.Subscript o e pos) (tDGet (tVar i) (tD fe))) : PE X (.Subscript o e pos) (tD (dDIx i fe)) := h.imp fun σ H Q ⟨c, A, n, ρ, Q', E, ⟨⟨kvs0, e0⟩, hf⟩, k⟩ => by
  obtain ⟨a, ws, h1, h2, h3, h4⟩ := E.slot i _ e0
  refine ⟨_, h2, c, A, n, ρ, _, E, hf, fun v x n1 H1 ⟨key, ex, kvs, e1, z, ez, hq⟩ f1 o1 => ?_⟩
  subst ex
  have E1 := E.fr f1
  obtain ⟨a', ws', k1, k2, k3, k4⟩ := E1.slot i _ e1
  rw [h1] at k1
  cases k1
  obtain rfl := kD_kV (show Rp _ v (kD key) from o1)
  rcases k4.val key with ⟨q1, q2⟩ | ⟨u, d, q1, q2, rp⟩
  · rw [q2] at ez
    cases ez
  · rw [q2] at ez
    cases ez
    exact ⟨a, u, rfl, .inl ⟨ws', key, .inl k3, rfl, q1.symm⟩, k u _ n1 H1 hq f1 rp⟩
/-- k in d -/
def dDIn (neg : Bool) (i : Nat) (f : DF) : DF := fun ρ n Q => (∃ kvs, ρ[i]? = some (.dic kvs)) ∧ f ρ n fun x n1 => ∃ k : Key, x = .d (kD k) ∧ ∃ kvs, ρ[i]? = some (.dic kvs) ∧ Q (.d (.bool (if neg then !(valD kvs k).isSome else (valD kvs k).isSome))) n1
/-- d[k] = x -/
def dDPut (i : Nat) (f g : DF) : DS := fun E ρ n => (∃ kvs, ρ[i]? = some (.dic kvs)) ∧ g ρ n fun y n1 => f ρ n1 fun x n2 => ∃ k : Key, x = .d (kD k) ∧ ∃ z, y.dat = some z ∧ ∃ kvs, ρ[i]? = some (.dic kvs) ∧ kvs.length < 100000 ∧ E.nx (ρ.set i (.dic (putKD kvs k z))) n2
theorem psDPut {X : Cx} {o e value : Expr} {pos pos' : Pos} {i : Nat} {fe fv : DF} (hu : X.A.units + 1 < cLine) (ho : PE X o (tVar i)) (he : PE X e (tD fe)) (hv : PE X value (tD fv)) (hs : swapsWith value (some (.Subscript o e pos')) pos.line X.env = pure false := by rfl) :
    PS X (.Assign [.Subscript o e pos'] value pos) (sD (dDPut i fe fv)) := (ps_dput hu ho he hv hs).imp fun D σ H ⟨c, A, n, ρ, E, e, ⟨⟨kvs0, e0⟩, hf⟩, L⟩ => by
  refine ⟨c, A, n, ρ, _, e, hf, fun v y n1 H1 hg f1 o1 => ?_⟩
  have E1 := e.fr f1
  obtain ⟨a, ws, h1, h2, h3, h4⟩ := E1.slot i _ e0
  refine ⟨_, h2, c, A, n1, ρ, _, E1, hg, fun w x n2 H2 ⟨key, ex, z, ez, kvs, e1, hl, hn⟩ f2 o2 => ?_⟩
  subst ex
  have E2 := E1.fr f2
  obtain ⟨a', ws', k1, k2, k3, k4⟩ := E2.slot i _ e1
  rw [h1] at k1
  cases k1
  obtain rfl := kD_kV (show Rp _ w (kD key) from o2)
  have rv : Rp (msk (c.av A) H2) v z := (o1.dat e ez).ex f2.msk
  refine ⟨a, _, rfl, .inl ⟨ws', key, k3, rfl, big_lt (by rw [k4.length]; exact hl), rfl⟩, ?_⟩
  exact L.nx _ _ _ _ _ hn (E2.mut h1 k3 (.inr ⟨_, rfl⟩) (fun ps z => by cases z) ⟨a, _, h1, k2, upd_same, k4.put rv⟩ fun _ => rfl)
end

/-! ### {row[3] for row in rows} -/
section
open PySem.Spec PyProof.Rows
variable {prog : Program} {w : World} {A : Around} {env : Env} {s : Shared}
theorem neL {b N C : Nat} (hb : b < N + 1) (hC : N + 1 ≤ C) : b ≠ C := by omega
theorem neR {N C : Nat} (hC : N + 1 ≤ C) : C ≠ N := by omega
theorem setR_on {w : World} {h h' : Heap} {a : Addr} {S : Int → Bool} {n : Nat} (r : SetR w h a S n) (k : ∀ o, h.get? a = some o → h'.get? a = some o) : SetR w h' a S n := by
  obtain ⟨o, es, ep, t, e, r⟩ := r
  exact ⟨o, es, ep, t, k o e, r⟩
theorem rowAt_env {env' : Env} {t : Addr} {m : Str → Option Value} {items : Array Value} {k : Int} {j : Nat} {x : Value} {p1 p2 p3 : Pos} {E Q : Value → Shared → Prop} (hf : env'.scope.kind = .function) (hk : env'.kindOf ("row" : Str) = some .local) (hn : s.heap.Ns env'.locals m) (hm : m "row" = some (.ref t)) (ht : PyProof.Rows.IsTup s.heap t items) (h0 : 0 ≤ k) (h63 : k < 2 ^ 63)
    (hj : seqIndex? k items.size = some j) (hx : items[j]? = some x) (h : ∀ tk, Q x { s with toks := tk }) : wpAny (model prog w) A (eval (rowAt k p1 p2 p3) env') Q E s := by
  refine PyProof.Rows.Subscript_ (wpAny_Name (wpAny_loadName_local hf hk hn hm ?_) (by decide))
  refine wpAny_Constant_int ?_
  exact PyProof.Rows.subscriptTail_builtinR (x := x) (PyProof.Rows.IsTup.typeIs ht) PySem.F.slot_tuple_getitem.lookup
    (PyProof.Rows.getItem_tuple (j := j) (Q := fun r s' => r = x ∧ Q r s') ht (by omega) h63 hj hx ⟨rfl, h _⟩) rfl
theorem seq_ix0 {x n : Nat} (h : x < n) : seqIndex? (x : Int) n = some x := by
  have h0 : ¬ (x : Int) < 0 := by omega
  have h1 : (decide (0 ≤ (x : Int)) && decide ((x : Int) < (n : Int))) = true := by
    rw [decide_eq_true (show 0 ≤ (x : Int) by omega), decide_eq_true (show (x : Int) < (n : Int) by omega)]
    rfl
  unfold seqIndex?
  simp only [if_neg h0, if_pos h1]
  rfl
theorem set_rows {scope : Scope} {l : Addr} {us : Array Value} {ks : List Int} {pa p1 p2 p3 : Pos} {E Q : Value → Shared → Prop} (hh : A.handled = none)
    (hkind : scope.kind = .function) (ha : scope.names.lookup ("row" : Str) = some .local) (hl : s.heap.IsList l us) (few : us.size + 1 < scanBound) (hk : ks.length = us.size)
    (hu : ∀ (i : Nat) (v : Value), us[i]? = some v → ∃ (t : Addr) (its : Array Value) (k : Int) (tk : Tok), v = .ref t ∧ IsTup s.heap t its ∧ its[3]? = some (.int k tk) ∧ ks[i]? = some k)
    (h : ∀ D h' tk c, s.heap.objs.size ≤ D → SetR w h' D (fun j => decide (j ∈ ks)) c → c ≤ ks.length → (∀ b o, s.heap.get? b = some o → h'.get? b = some o) → Q (.ref D) { s with heap := h', toks := tk }) :
    wpAny (model prog w) A (pyIter (.ref l)) (ScGoes prog w A E env scope [] (.Name "row" pa) [] (rowAt 3 p1 p2 p3) none Q) E s := by
  have hlt : l < s.heap.objs.size := by obtain ⟨o, ho, _⟩ := hl; exact Heap.lt_size ho
  refine wpAny_pyIter_list hl ?_
  have lst1 := fun (o : Obj) => (hl.push o : (s.heap.push o).IsList l us)
  refine ⟨_, _, _, _, _, _, rfl, Goes.list hh s.heap.objs.size l (Nat.ne_of_lt hlt) us, ⟨⟨_, Heap.get?_push_size _ rfl, rfl, rfl⟩, lst1 _⟩, fun D C s₃ hB hD => ?_⟩
  obtain ⟨⟨h₃, tk₃, rfl⟩, old, nD, nC, hDC, hnm⟩ := hB
  have hI : (s.heap.push ({ cls := Value.type "list_iterator", data := Data.fields #[Value.ref l, Value.int 0 0] } : Obj)).objs.size = s.heap.objs.size + 1 := Heap.size_push ..
  have nC' : (s.heap.objs.size + 1 : Nat) ≤ C := by rw [← hI]; exact nC
  have nD' : (s.heap.objs.size + 1 : Nat) ≤ D := by rw [← hI]; exact nD
  have hDC' : (D : Nat) ≠ C := hDC
  have old' : ∀ b o, s.heap.get? b = some o → h₃.get? b = some o := fun b o e => old b o (Heap.get?_push_of_some _ e)
  have kinds : ∀ y, scope.names.lookup y = some .local → (compEnvC scope [] C env).kindOf y = some .local := fun y hy => lookup_relabel_local hy
  have hp : ((compEnvC scope [] C env).scope.kind == .class || ((compEnvC scope [] C env).scope.kind == .module && (compEnvC scope [] C env).locals != (compEnvC scope [] C env).globals)) = false := by
    show (scope.kind == .class || (scope.kind == .module && _)) = false
    rw [hkind]; rfl
  have offI : ∀ b : Addr, b ≠ s.heap.objs.size → b ∉ [s.heap.objs.size] := fun b hb hm => hb (List.mem_singleton.mp hm)
  have neC : ∀ b : Addr, (b < s.heap.objs.size + 1) → b ≠ C := fun b hb => neL hb nC'
  have neD : ∀ b : Addr, (b < s.heap.objs.size + 1) → b ≠ D := fun b hb => neL hb nD'
  refine ⟨fun i s₁ => ∃ h' tk m c, s₁ = { s with heap := h', toks := tk } ∧ h'.Ns C m ∧ SetR w h' D (fun j => decide (j ∈ ks.take i)) c ∧ c ≤ i ∧ ∀ b o, s.heap.get? b = some o → h'.get? b = some o, ⟨h₃, tk₃, _, 0, rfl, hnm, setR_new_at hD, Nat.le_refl 0, old'⟩, ?_, ?_, ?_⟩
  · rintro i s₁ h' tk ⟨h₄, tk₄, m, c, rfl, n₄, r₄, c₄, k₄⟩ hk' _
    have offC : C ≠ s.heap.objs.size := neR nC'
    have offD : D ≠ s.heap.objs.size := neR nD'
    exact ⟨h', tk, m, c, rfl, n₄.at' fun o e => hk' _ o (offI _ offC) e, setR_on r₄ fun o e => hk' _ o (offI _ offD) e, c₄, fun b o e => hk' b o (offI _ (Nat.ne_of_lt (Heap.lt_size e))) (k₄ b o e)⟩
  · rintro i v s₁ hi' hv st ⟨h₄, tk₄, m, c, rfl, n₄, r₄, c₄, k₄⟩
    obtain ⟨t, its, k, tkk, rfl, ht, h3, hki⟩ := hu i v hv
    refine wpAny_assign_Name (wpAny_storeName_local (kinds _ ha) n₄ (fun h₅ n₅ s₅ => ?_) hp)
    refine wpAny_tests_nil ?_
    show wpAny _ _ _ _ _ _
    have up₅ : ∀ b o, b ≠ C → h₄.get? b = some o → h₅.get? b = some o := fun b o hb e => s₅.extBut _ _ hb e
    have ht4 : IsTup h₅ t its := ht.keeps fun b o e => up₅ b o (neC b (Nat.lt_succ_of_lt (Heap.lt_size e))) (k₄ b o e)
    have h3s : 3 < its.size := (Array.getElem?_eq_some_iff.mp h3).1
    refine rowAt_env (j := 3) hkind (kinds _ ha) n₅ (by rfl) ht4 (by decide) (by decide) (seq_ix0 h3s) h3 fun tk₅ => ?_
    have r₅ := setR_on r₄ fun o e => up₅ D o hDC e
    refine setR_add (tk := tkk) r₅ (by omega) fun h₆ sb r₆ => ?_
    have up₆ : ∀ b o, b < s.heap.objs.size + 1 → h₄.get? b = some o → h₆.get? b = some o := fun b o hb e => sb.extBut b o (neD b hb) (up₅ b o (neC b hb) e)
    have eS : (fun j => decide (j ∈ ks.take i) || decide (j = k)) = fun j => decide (j ∈ ks.take (i + 1)) := by
      funext j
      rw [List.take_add_one, hki]
      simp [Bool.eq_iff_iff]
    rw [eS] at r₆
    refine ⟨⟨h₆, _, _, (if decide (k ∈ ks.take i) = true then c else c + 1), rfl, n₅.at' fun o e => sb.extBut _ o hDC.symm e, r₆, by split <;> omega, fun b o e => up₆ b o (Nat.lt_succ_of_lt (Heap.lt_size e)) (k₄ b o e)⟩, ?_⟩
    obtain ⟨⟨a1, e1, z3⟩, z⟩ := st
    exact ⟨⟨a1, up₆ _ _ (Nat.lt_succ_self _) e1, z3⟩, z.at fun o e => up₆ _ o (Nat.lt_succ_of_lt hlt) e⟩
  · rintro s₁ ⟨h₄, tk₄, m, c, rfl, n₄, r₄, c₄, k₄⟩
    rw [← hk, List.take_length] at r₄
    exact ⟨m, n₄, fun h' hs' => h D h' tk₄ c (Nat.le_of_succ_le nD') (setR_on r₄ fun o e => hs'.extBut _ o hDC e) (by rw [hk]; exact c₄) fun b o e => hs'.extBut b o (neC b (Nat.lt_succ_of_lt (Heap.lt_size e))) (k₄ b o e)⟩
end
/-- {row[3] for row in rows} -/
def tSetRows (K : PySem.W.Frag) (w : World) (ta : TE) : TE := fun σ H Q => ta σ H fun x H1 => ∃ (l : Addr) (xs : List V) (ks : List Int), x = .ref l ∧ SqL K H1 l xs ∧ xs.length ≤ 1000 ∧ ks.length = xs.length ∧
  (∀ (i : Nat) (y : V), xs[i]? = some y → ∃ t ws k, y = .ref t ∧ SqT K H1 t ws ∧ ws[3]? = some (.int k) ∧ ks[i]? = some k) ∧ ∀ p c, H1 p = none → c ≤ ks.length → Q (.ref p) (upd H1 p (SetO w p (fun j => decide (j ∈ ks)) c))
theorem pe_setRows {X : Cx} {iter : Expr} {scope : Scope} {ta : TE} {pa p1 p2 p3 pos : Pos} (hc : X.calm = true) (he : PE X iter ta) (hclos : closureFor scope X.env = pure []) (hcell : ∀ y ∈ scope.names, y.2 ≠ .cell) (hkind : scope.kind = .function) (hnames : ∀ y ∈ scope.names, y.2 = .local → scope.names.lookup y.1 = some .local)
    (ha : scope.names.lookup ("row" : Str) = some .local) (hs : ∀ x, foldedSetIterable iter X.env x = pure x) : PE X (.SetComp (rowAt 3 p1 p2 p3) [⟨.Name "row" pa, iter, [], 0⟩] scope pos) (tSetRows X.K X.w ta) := by
  refine ⟨fun pins s σ H Q I h => ?_⟩
  refine SetComp_goes hclos hcell hkind hnames (thn (he.run pins s σ H _ I h) fun u s1 ⟨x, H1, I1, r1, q1⟩ => ?_) hs
  obtain ⟨l, xs, ks, rfl, hl, few, hk, hu, q⟩ := q1
  obtain rfl : u = Value.ref l := r1
  obtain ⟨its, rv, pl, hz⟩ := I1.list hl
  refine set_rows (ks := ks) (I1.ok.hd hc) hkind ha pl.isList (by rw [List.size_toArray, ← rv.length]; unfold scanBound; omega) (by rw [List.size_toArray, ← rv.length]; exact hk) (fun i v hv => ?_) fun D h' tk c hD r hc' keep => ?_
  · have hv' : its[i]? = some v := by simpa using hv
    have hi : i < xs.length := by
      rw [rv.length]
      exact (List.getElem?_eq_some_iff.mp hv').1
    obtain ⟨t, ws, k, e1, ht, h3, hki⟩ := hu i xs[i] (List.getElem?_eq_getElem hi)
    obtain ⟨u, eu, ru⟩ := rv.get (List.getElem?_eq_getElem hi)
    rw [hv'] at eu
    cases eu
    rw [e1] at ru
    obtain rfl : v = Value.ref t := ru
    obtain ⟨its2, rv2, pl2, _⟩ := I1.tuple ht
    obtain ⟨u3, e3, ru3⟩ := rv2.get h3
    obtain ⟨t3, rfl⟩ := ru3
    exact ⟨t, _, k, t3, rfl, pl2, by simpa using e3, hki⟩
  · exact ⟨.ref D, upd H1 D (SetO X.w D (fun j => decide (j ∈ ks)) c), I1.laid (t' := tk) keep hD (setO_new r), rfl, q D c (I1.hok.fresh hD) hc'⟩
section
variable [Fam] [Tabz]
/-- sorted({row[3] for row in rows}) -/
def dSortSetRows (f : DF) : DF := fun ρ n Q => f ρ n fun r n1 => ∃ (ds : List PyData) (ks : List Int), r.dat = some (.list ds) ∧ Cnd (ds.length < 64) ∧ ks.length = ds.length ∧ (∀ (i : Nat) (d : PyData), ds[i]? = some d → ∃ es k, d = .tuple es ∧ es[3]? = some (.int k) ∧ ks[i]? = some k) ∧
  ∀ out : List Int, out.Pairwise (· < ·) → (∀ k, k ∈ out ↔ k ∈ ks) → Q (.own (out.map PyData.int)) n1
theorem pdSortSetRows {X : Cx} {e : Expr} {f : DF} {w : World} (h : PE X e (tCB (rSortedSet w) (tCons (tSetRows X.K w (tD f)) tNil))) : PE X e (tD (dSortSetRows f)) := h.imp fun σ H Q ⟨c, A, n, ρ, Q', E, hf, k⟩ => by
  refine ⟨c, A, n, ρ, _, E, hf, fun v r n1 H1 ⟨ds, ks, ed, cc, hk, hd, hq⟩ f1 o1 => ?_⟩
  have rp := o1.dat E ed
  have E1 := E.fr f1
  have few := cc.get
  cases rp with
  | @lst l xs _ h1 h2 =>
    have hlen : xs.length = ds.length := h2.length
    refine ⟨l, xs, ks, rfl, SqL.of (msk_some h1).2, by omega, by omega, fun i y hy => ?_, fun p m np hm => ?_⟩
    · have hil : i < ds.length := by
        rw [← hlen]
        exact (List.getElem?_eq_some_iff.mp hy).1
      obtain ⟨y', hy', rp1⟩ := h2.get (List.getElem?_eq_getElem hil)
      rw [hy] at hy'
      cases hy'
      obtain ⟨es, k, e1, e3, e4⟩ := hd i ds[i] (List.getElem?_eq_getElem hil)
      rw [e1] at rp1
      cases rp1 with
      | @tup t ws _ g1 g2 =>
        obtain ⟨y3, g3, g4⟩ := g2.get e3
        cases g4
        exact ⟨t, ws, k, rfl, SqT.of (msk_some g1).2, g3, e4⟩
    · refine ⟨p, _, m, rfl, upd_same, by omega, fun out q so mo _ nq => ?_⟩
      have f2 : Fr c n1 H1 (upd H1 p (SetO w p (fun j => decide (j ∈ ks)) m)) := Fr.new E1.g np
      have E2 := E1.fr f2
      have f3 : Fr c n1 (upd H1 p (SetO w p (fun j => decide (j ∈ ks)) m)) (upd (upd H1 p (SetO w p (fun j => decide (j ∈ ks)) m)) q (.lst (out.map V.int))) := Fr.new E2.g nq
      refine k _ _ n1 _ (hq out so fun x => ?_) ((f1.trans f2).trans f3) (VOk.mono E (f1.trans f2) (own_new E2 nq (rp_intsS out)))
      rw [mo x]
      exact decide_eq_true_iff
end

/-! ### max(xs, default=d) of ints -/
def maxDf (ns : List Int) (d : Int) : Int := match ns with
  | [] => d
  | n :: ns => ns.foldl max n
def rMaxDf (K : PySem.W.Frag) : List V → List V → Hp → VK → Prop := fun vs zs H Q => ∃ (a : Addr) (ns : List Int) (d : Int), vs = [V.ref a] ∧ zs = [V.int d] ∧ SqL K H a (ns.map V.int) ∧ Q (.int (maxDf ns d)) H
theorem depth_ints : ∀ ns : List Int, PyData.depthAll (ns.map PyData.int) ≤ 1
  | [] => by simp [PyData.depthAll]
  | n :: ns => by
    have := depth_ints ns
    simp only [List.map_cons, PyData.depthAll, PyData.depth]
    omega
theorem alike_intsD (ns : List Int) : PySem.W.AlikeAll (ns.map PyData.int) := by
  refine ⟨fun x hx y hy => ?_, fun x hx e => ?_⟩
  · obtain ⟨a, _, rfl⟩ := List.mem_map.mp hx
    obtain ⟨b, _, rfl⟩ := List.mem_map.mp hy
    simp only [PySem.W.alike]
  · obtain ⟨a, _, rfl⟩ := List.mem_map.mp hx
    cases e
theorem cr_maxDf {X : Cx} (hc : X.calm = true) (hu : X.A.units + 65 < cLine) : CallRK X (.builtin "max") [Str.ofString "default"] (rMaxDf X.K) := by
  intro pins s σ H vs zs us ws Q I r rz h
  obtain ⟨a, ns, d, rfl, rfl, hs, q⟩ := h
  obtain ⟨its, rv, hl, hz⟩ := I.list hs
  obtain rfl := Vals.ref1 r
  obtain ⟨w1, rfl, t, rfl⟩ := vals1 rz
  have hi := rv.ints
  refine PySem.W.max_list_default (xs := ns.map PyData.int) (I.ok.hd hc) hl.isList (hi.reads _) (alike_intsD ns) (by have := depth_ints ns; omega) ?_ ?_
  · intro e h' tk hk
    have : ns = [] := List.map_eq_nil_iff.mp e
    subst this
    exact ⟨.int d, H, I.kept hk, ⟨_, rfl⟩, q⟩
  · intro y ys i v h' tk bs e hv r2 hk
    cases ns with
    | nil => cases e
    | cons n ns =>
      rw [List.map_cons] at e
      injection e with e1 e2
      subst e1
      subst e2
      rw [PySem.W.maxD_ints] at r2
      cases r2
      exact ⟨.int _, H, I.kept hk, ⟨_, rfl⟩, q⟩
section
variable [Fam] [Tabz]
def dMaxDf (f : DF) (d : Int) : DF := fun ρ n Q => f ρ n fun r n1 => ∃ ds, r.dat = some (.list ds) ∧ ∃ ns, intsOf ds = some ns ∧ Q (.d (.int (maxDf ns d))) n1
theorem pdMaxDf {X : Cx} {e : Expr} {f : DF} {d : Int} (h : PE X e (tCKw (rMaxDf X.K) (tCons (tD f) tNil) (tCons (tC (.int d)) tNil))) : PE X e (tD (dMaxDf f d)) := h.imp fun σ H Q ⟨c, A, n, ρ, Q', E, hf, k⟩ => by
  refine ⟨c, A, n, ρ, _, E, hf, fun v r n1 H1 ⟨ds, ed, ns, en, hq⟩ f1 o1 => ?_⟩
  have rp := o1.dat E ed
  cases rp with
  | @lst l xs _ h1 h2 =>
    have ex := ints_of h2 en
    subst ex
    exact ⟨l, ns, d, rfl, rfl, SqL.of (msk_some h1).2, k _ _ n1 H1 hq f1 (Rp.int _)⟩
end

/-! ### data readings: xs[i] += e, xs[i] = e, xs a list of one's own -/
def rGetL : V → V → Hp → VK → Prop := fun o i H Q => ∃ p xs k v, o = .ref p ∧ i = .int k ∧ H p = some (.lst xs) ∧ 0 ≤ k ∧ k < 2 ^ 63 ∧ xs[k.toNat]? = some v ∧ Q v H
theorem get_list {X : Cx} : PGet X rGetL := by
  intro pins s σ H o i ov iv Q I ro ri h
  obtain ⟨p, xs, k, v, rfl, rfl, hp, h0, h1, hv, q⟩ := h
  obtain rfl : ov = Value.ref p := ro
  obtain ⟨tk, rfl⟩ := ri
  obtain ⟨its, rv, pl, hz⟩ := I.list (SqL.of hp)
  obtain ⟨u, eu, ru⟩ := rv.get hv
  exact wpAny_getItem_list pl.isList h0 h1 (by simpa using eu) ⟨v, H, I, ru, q⟩
theorem ixN_nat {n k : Nat} (h : k < n) : L2.ixN n (k : Int) = some k := by
  unfold L2.ixN
  rw [if_pos (by omega), if_pos (by omega)]
  rfl
section
variable [Fam] [Tabz]
theorem RpA.set' {M : Hp} : ∀ {vs : List V} {ds : List PyData} (j : Nat) {v : V} {d : PyData}, RpA M vs ds → Rp M v d → RpA M (vs.set j v) (ds.set j d)
  | _, _, _, _, _, .nil, _ => .nil
  | _, _, 0, _, _, .cons _ t, h => .cons h t
  | _, _, j + 1, _, _, .cons r t, h => .cons r (RpA.set' j t h)
/-- xs[i] += e, of ints -/
def dIxAug (i : Nat) (op : Int → Int → Int) (g f : DF) : DS := fun E ρ n => (∃ ds, ρ[i]? = some (.own ds)) ∧ g ρ n fun y n1 => ∃ (k : Nat) (a : Int), y = .d (.int (k : Nat)) ∧ k < 2 ^ 62 ∧ (∃ ds, ρ[i]? = some (.own ds) ∧ ds[k]? = some (.int a)) ∧ f ρ n1 fun z n2 => ∃ b, z = .d (.int b) ∧ ∃ ds, ρ[i]? = some (.own ds) ∧ k < ds.length ∧ E.nx (ρ.set i (.own (ds.set k (.int (op a b))))) n2
theorem psIxAug {X : Cx} {o e f : Expr} {pos tpos : Pos} {i : Nat} {op : Int → Int → Int} {fo : Operator} {ge fe : DF} (ho : PE X o (tVar i)) (he : PE X e (tD ge)) (hop : PIp X fo (ipI op)) (hf : PE X f (tD fe)) (hs : ∀ (ov iv new : Value), augStore e ov iv new = (do holding [new, ov, iv] (setItem ov iv new); release [new, ov, iv] []; pure Flow.next) := by intros; rfl) :
    PS X (.AugAssign (.Subscript o e tpos) fo f pos) (sD (dIxAug i op ge fe)) := (ps_augS ho he get_list hf hop set_list hs).imp fun D σ H ⟨c, A, n, ρ, E, e, ⟨⟨ds0, e0⟩, hf⟩, L⟩ => by
  obtain ⟨a, vs, h1, h2, h3, h4⟩ := e.slot i _ e0
  refine ⟨_, h2, c, A, n, ρ, _, e, hf, fun v y n1 H1 ⟨k, x, ey, hk, ⟨ds, e1, ex⟩, hg⟩ f1 o1 => ?_⟩
  subst ey
  cases o1
  have E1 := e.fr f1
  obtain ⟨a', vs', k1, k2, k3, k4⟩ := E1.slot i _ e1
  rw [h1] at k1
  cases k1
  obtain ⟨u, eu, ru⟩ := k4.get ex
  cases ru
  refine ⟨a, vs', (k : Int), .int x, rfl, rfl, k3, by omega, by omega, by rw [Int.toNat_natCast]; exact eu, ?_⟩
  refine ⟨c, A, n1, ρ, _, E1, hg, fun w z n2 H2 ⟨b, ez, ds2, e2, hl, hn⟩ f2 o2 => ?_⟩
  subst ez
  cases o2
  have E2 := E1.fr f2
  obtain ⟨a2, vs2, m1, m2, m3, m4⟩ := E2.slot i _ e2
  rw [h1] at m1
  cases m1
  refine ⟨x, b, rfl, rfl, a, vs2, (k : Int), k, rfl, rfl, m3, ixN_nat (by rw [m4.length]; exact hl), ?_⟩
  exact L.nx _ _ _ _ _ hn (E2.mut h1 m3 (.inl ⟨_, rfl⟩) (fun ps z => by cases z) ⟨a, _, h1, m2, upd_same, m4.set' k (Rp.int _)⟩ fun _ => rfl)
end

/-! ### list.count of data; sorted of pairs of ints -/
def rCntD (K : PySem.W.Frag) : V → List V → Hp → VK → Prop := fun x xs H Q => ∃ (a : Addr) (y : V) (d : PyData) (ds : List PyData), x = V.ref a ∧ xs = [y] ∧ Dp K H (V.ref a) (.list ds) ∧ Dp K H y d ∧
    SeqAt.shaped (.list ds) = true ∧ SeqAt.shaped d = true ∧ Q (.int ((ds.countP fun z => PyData.eqv z d : Nat))) H
theorem mt_countD {X : Cx} (hu : X.A.units + 65 < cLine) : MtR X "list.count" (rCntD X.K) := by
  intro pins s σ H x xs v us Q I rx rxs h
  obtain ⟨a, y, d, ds, rfl, rfl, hl, hy, sl, sd, q⟩ := h
  cases rx
  cases rxs with
  | cons ry rt =>
    rename_i uy ut
    cases rt
    obtain ⟨bs, r1⟩ := Dp.reads I d y uy hy ry
    have hxs : PyData.canLayAll0 ds = true := SeqAt.canLay_of_shaped sl
    have hroom : X.A.units + 1 + min (PyData.depthAll ds) d.depth < cLine := PyProof.Rows.room_in_shaped sd hu
    cases hl with
    | lst hs ha =>
      obtain ⟨its, rv, ⟨⟨cls, dd, data, sls⟩, n, ho, hc, hdn, hdt⟩, hlen⟩ := I.list hs
      simp only at hc hdt
      subst hc hdt
      obtain ⟨as, h4⟩ := Dp.readsAll I ds _ its ha rv
      have hmap : its.map (SeqAt.readOf s.heap) = ds := SeqAt.readsAll_map ds its as hxs h4
      have hc : its.toArray.toList.countP (fun u => PyData.eqv (SeqAt.readOf s.heap u) d) = ds.countP fun z => PyData.eqv z d := by
        rw [← hmap, List.countP_map]
        rfl
      refine call_meets PySem.F.slot_list_count ⟨_, ho, rfl⟩ PySem.F.entry_list_count (PySem.F.args_list_count_2 _ _)
        (SeqAt.list_countAt a its.toArray n dd sls uy (fun u => PyData.eqv (SeqAt.readOf s.heap u) d)) ⟨ho, SeqAt.items_eqAt (vs := its.toArray) (show ReadsAll s.heap its.toArray.toList ds as from h4) r1 hxs (SeqAt.canLay_of_shaped sd) hroom, ?_⟩
      exact ⟨.int _, H, I.tok _, ⟨s.toks, by rw [hc]⟩, q⟩
section
variable [Fam] [Tabz]
def dCount (f g : DF) : DF := fun ρ n Q => f ρ n fun x n1 => ∃ ds, x = .d (.list ds) ∧ g ρ n1 fun y n2 => ∃ d, y.dat = some d ∧ SeqAt.shaped (.list ds) = true ∧ SeqAt.shaped d = true ∧ Q (.d (.int ((ds.countP fun z => PyData.eqv z d : Nat)))) n2
theorem pdCount {X : Cx} {e : Expr} {f g : DF} (h : PE X e (tBM X.K "list" (rCntD X.K) (tD f) (tCons (tD g) tNil))) : PE X e (tD (dCount f g)) := h.imp fun σ H Q ⟨c, A, n, ρ, Q', E, hf, k⟩ => by
  refine ⟨c, A, n, ρ, _, E, hf, fun v x n1 H1 ⟨ds, ex, hg⟩ f1 o1 => ?_⟩
  subst ex
  have rp : Rp (msk (c.av A) H1) v (.list ds) := o1
  have rp2 := rp
  cases rp2 with
  | @lst l xs _ h1 h2 =>
    refine ⟨.inl ⟨rfl, _, SqL.of (msk_some h1).2⟩, c, A, n1, ρ, _, E.fr f1, hg, fun w y n2 H2 ⟨d, ed, s1, s2, hq⟩ f2 o2 => ?_⟩
    have rq := o2.dat (E.fr f1) ed
    exact ⟨l, w, d, ds, rfl, rfl, up_msk (rp.ex f2.msk), up_msk rq, s1, s2, k _ _ n2 H2 hq (f1.trans f2) (Rp.int _)⟩
def pd2 (p : Int × Int) : PyData := .tuple [.int p.1, .int p.2]
def un2 : PyData → Int × Int
  | .tuple [.int i, .int j] => (i, j)
  | _ => (0, 0)
def dSortP (f : DF) : DF := fun ρ n Q => f ρ n fun r n1 => ∃ ps : List (Int × Int), r.dat = some (.list (ps.map pd2)) ∧ ∀ qs : List (Int × Int), qs.Perm ps → qs.Pairwise (fun x y => SrtO.lexB y x = false) → Q (.own (qs.map pd2)) n1
theorem pdSortP {X : Cx} {e : Expr} {f : DF} (h : PE X e (tCB (rSortedPO X.K) (tCons (tD f) tNil))) : PE X e (tD (dSortP f)) := h.imp fun σ H Q ⟨c, A, n, ρ, Q', E, hf, k⟩ => by
  refine ⟨c, A, n, ρ, _, E, hf, fun v r n1 H1 ⟨ps, ed, hq⟩ f1 o1 => ?_⟩
  have rp := o1.dat E ed
  have E1 := E.fr f1
  cases rp with
  | @lst l xs _ h1 h2 =>
    obtain ⟨d1, d2⟩ := h2.datOf
    have hx : ∀ y ∈ xs, ∃ p : Int × Int, datOf (msk (c.av A) H1) y = pd2 p := fun y hy => by
      have : datOf (msk (c.av A) H1) y ∈ ps.map pd2 := by rw [d1]; exact List.mem_map.mpr ⟨y, hy, rfl⟩
      obtain ⟨p, _, e⟩ := List.mem_map.mp this
      exact ⟨p, e.symm⟩
    have un_pd : ∀ p, un2 (pd2 p) = p := fun p => rfl
    refine ⟨l, xs, fun y => un2 (datOf (msk (c.av A) H1) y), rfl, SqL.of (msk_some h1).2, fun y hy => ?_, fun ys p hs hst np => ?_⟩
    · obtain ⟨q, eq⟩ := hx y hy
      have ry := d2 y hy
      rw [eq] at ry
      dsimp only
      rw [eq]
      cases ry with
      | @tup t ws _ g1 g2 =>
        cases g2 with
        | cons a t2 => cases t2 with
          | cons b t3 =>
            cases t3
            cases a
            cases b
            exact ⟨t, rfl, (msk_some g1).2⟩
    · have pm := hst.perm
      have hy : ∀ y ∈ ys, y ∈ xs := fun y hy => pm.mem_iff.mp hy
      have e1 : ys.map (datOf (msk (c.av A) H1)) = (ys.map fun y => un2 (datOf (msk (c.av A) H1) y)).map pd2 := by
        rw [List.map_map]
        refine List.map_congr_left fun y h => ?_
        obtain ⟨q, eq⟩ := hx y (hy y h)
        show _ = pd2 (un2 _)
        rw [eq, un_pd]
      have e2 : (xs.map fun y => un2 (datOf (msk (c.av A) H1) y)) = ps := by
        have : (ps.map pd2).map un2 = ps := by rw [List.map_map]; exact List.map_id'' (fun p => rfl) ps
        rw [d1, List.map_map] at this
        exact this
      have ra : RpA (msk (c.av A) H1) ys ((ys.map fun y => un2 (datOf (msk (c.av A) H1) y)).map pd2) := by
        rw [← e1]
        exact RpA.of_datOf fun y h => d2 y (hy y h)
      have f2 : Fr c n1 H1 (upd H1 p (.lst ys)) := Fr.new E1.g np
      exact k _ _ n1 _ (hq _ (by rw [← e2]; exact pm.map _) (List.pairwise_map.mpr hs)) (f1.trans f2) (VOk.mono E f1 (own_new E1 np ra))
/-- two sorted lists of the same pairs are one -/
theorem sortP_uniq {a b ps : List (Int × Int)} (ha : a.Perm ps) (hb : b.Perm ps) (sa : a.Pairwise (fun x y => SrtO.lexB y x = false)) (sb : b.Pairwise (fun x y => SrtO.lexB y x = false)) : a = b := by
  refine List.Perm.eq_of_pairwise (le := fun x y => SrtO.lexB y x = false) (fun x y _ _ h1 h2 => ?_) sa sb (ha.trans hb.symm)
  have a := SrtO.lexB_no.mp h1
  have b := SrtO.lexB_no.mp h2
  refine Prod.ext ?_ ?_ <;> omega
end

/-! ### [h x for x in xs if p x] -/
section
variable [Fam] [Tabz]
theorem lcFM {g : DG} {t : DT} {h : DF} {vs : List Nat} {ρ : List DV} {n : Int} {Q : DQ} {ds : List PyData} (p : PyData → Bool) (out : PyData → PyData) (own : (vs.all fun j => match ρ[j]? with | some x => !x.isOwn | none => false) = true) (big : ds.length ≤ 100000)
    (step : ∀ d, d ∈ ds → ∃ ρ', g d (wipeD ρ vs) = some ρ' ∧ (∀ R : Bool → Int → Prop, R (p d) n → t ρ' n R) ∧ (p d = true → ∀ R : DQ, (∀ r, r.dat = some (out d) → R r n) → h ρ' n R)) (q : Q (.own ((ds.filter p).map out)) n) : LcOk g t h vs ρ Q ds n := by
  refine ⟨own, big, fun i acc m => m = n ∧ acc = ((ds.take i).filter p).map out, ⟨rfl, rfl⟩, ?_, ?_⟩
  · rintro i d acc m hd ⟨rfl, rfl⟩
    obtain ⟨ρ', e1, h1, h2⟩ := step d (List.mem_of_getElem? hd)
    refine ⟨ρ', e1, h1 _ ?_⟩
    have et : ((ds.take (i + 1)).filter p).map out = ((ds.take i).filter p).map out ++ if p d = true then [out d] else [] := by
      rw [List.take_succ, hd, List.filter_append, List.map_append]
      congr 1
      cases e : p d with
      | true => simp [e]
      | false => simp [e]
    cases e : p d with
    | true =>
      rw [if_pos rfl]
      refine h2 e _ fun r er => ⟨_, er, rfl, ?_⟩
      rw [et, e, if_pos rfl]
    | false =>
      rw [if_neg Bool.false_ne_true]
      refine ⟨rfl, ?_⟩
      rw [et, e, if_neg Bool.false_ne_true, List.append_nil]
  · rintro acc m ⟨rfl, rfl⟩
    rw [List.take_length] at *
    exact q
end

/-! ### calls with keywords, by the number of values -/
section
variable [Fam] [Tabz]
/-- a call with keywords, by the number of values (KBn) -/
theorem vsOk_len {t : V} {B : Addr → Prop} {H H' : Hp} : ∀ {vs : List V} {rs : List DV}, VsOk t B H H' vs rs → vs.length = rs.length
  | _, _, .nil => rfl
  | _, _, .cons _ _ q => congrArg Nat.succ (vsOk_len q)
def dCallN (a b : Nat) (m : DM) (gD : List DV → List DV → List DV) (g h : DA) : DF := fun ρ n Q => g ρ n fun rs n1 => h ρ n1 fun ks n2 => (rs.length = a ∧ ks.length = b) ∧ plainR (gD rs ks) ∧ m (gD rs ks) n2 Q
theorem callN_le {a b : Nat} {m : DM} {gV : List V → List V → List V} {gD : List DV → List DV → List DV} {g h : DA} (hk : KwOk gV gD) (E0 : XK) (σ : L2.St) (H : Hp) (Q : VK) (q : tD (dCallN a b m gD g h) σ H Q) : tCallN a b (spD m) gV E0 (tDA g) (tDA h) σ H Q := by
  obtain ⟨c, A, n, ρ, Q', E, hf, k⟩ := q
  refine ⟨c, A, n, ρ, _, E, hf, fun vs rs n1 H1 h1 f1 o1 => ⟨c, A, n1, ρ, _, E.fr f1, h1, fun zs ks n2 H2 ⟨⟨l1, l2⟩, pl, hm⟩ f2 o2 => ?_⟩⟩
  have E2 := (E.fr f1).fr f2
  refine ⟨(vsOk_len o1).trans l1, (vsOk_len o2).trans l2, ?_⟩
  have oa : VsOk c.t (c.av A) H H2 (gV vs zs) (gD rs ks) := hk _ _ _ _ _ _ _ _ (o1.later E f1 f2) (o2.mono E f1)
  refine ⟨E2.ec, n2, gD rs ks, Q', rfl, E2.g, rfl, VsOk.now (m := n2) E oa pl, hm, fun v r n' H' hq f3 o3 => ?_⟩
  exact k v r n' H' hq ((f1.trans f2).trans f3) (VOk.mono E (f1.trans f2) o3)
theorem pdCallN {X : Cx} {CX : CXT} {k n : Nat} {f : Addr} {fd : FuncData} {ps ks : List Str} {gW : List Value → List Value → List Value} {gV : List V → List V → List V} {gD : List DV → List DV → List DV} {m : DM} {x : Str} {p pos : Pos} {e : Expr} {es : List Expr} {kws : List Keyword} {g h : DA} {E0 : XK} (hkw : KwOk gV gD) (F : FnOk X.prog X.w X.K X.mg X.base CX k f fd ps (spD m)) (hr : Room k X.A) (hg : Gl X x) (hm : X.mg x = some (.ref f)) (hk : PySem.W.keepIn X.K (.ref f) = true) (hb : KBn X.K fd ps n ks gW gV) (hx : Passes CX X E0)
    (ha : PA X (e :: es) (tDA g)) (hkws : PK X kws (tDA h)) (hall : (backToKw pos (keywordEach kws X.env)).all (·.1.isSome) = true := by rfl) (hks : (backToKw pos (keywordEach kws X.env)).filterMap (·.1) = ks := by rfl)
    (hdb : (x == ("__debug__" : Str)) = false := by decide) (he : starEach (e :: es) X.env = (false, eval e X.env) :: starEach es X.env := by rfl)
    (hpl : ((backTo pos (starEach (e :: es) X.env)).any (·.1) || (backToKw pos (keywordEach kws X.env)).any (·.1.isNone)) = false := by rfl) :
    PE X (.Call (.Name x p) (e :: es) kws pos) (tD (dCallN n ks.length m gD g h)) := (pe_callN F hr hg hm hk hb hx ha hkws hall hks hdb he hpl).imp (callN_le hkw E0)
theorem kw_app : KwOk (fun vs zs => vs ++ zs) (fun rs ks => rs ++ ks) := by
  intro t B H H' vs zs rs ks h1 h2
  induction h1 with
  | nil => exact h2
  | cons a b _ ih => exact .cons a b ih
end

/-! ### xs[::-1] -/
section
variable [Fam] [Tabz]
def dRevL (f : DF) : DF := fun ρ n Q => f ρ n fun r n1 => ∃ ds, r.dat = some (.list ds) ∧ Q (.own ds.reverse) n1
theorem pdRevL {X : Cx} {e : Expr} {f : DF} (h : PE X e (tRevL X.K (tD f))) : PE X e (tD (dRevL f)) := h.imp fun σ H Q ⟨c, A, n, ρ, Q', E, hf, k⟩ => by
  refine ⟨c, A, n, ρ, _, E, hf, fun v r n1 H1 ⟨ds, ed, hq⟩ f1 o1 => ?_⟩
  have rp := o1.dat E ed
  have E1 := E.fr f1
  cases rp with
  | @lst l xs _ h1 h2 =>
    refine ⟨l, xs, rfl, SqL.of (msk_some h1).2, fun p np => ?_⟩
    exact k _ _ n1 _ hq (f1.trans (Fr.new E1.g np)) (VOk.mono E f1 (own_new E1 np h2.rev))
end

/-! ### dict([(k, v), ..]) of pairs whose keys are ints or texts -/
section
variable [Fam] [Tabz]
def pairK (q : Key × PyData) : PyData := .tuple [kD q.1, q.2]
def mergeD (kvs more : List (Key × PyData)) : List (Key × PyData) := more.foldl (fun acc kv => putKD acc kv.1 kv.2) kvs
theorem KRp.merge {M : Hp} {more : List (Key × V)} {ds : List (Key × PyData)} (r : KRp M more ds) : ∀ {ws : List (Key × V)} {kvs : List (Key × PyData)}, KRp M ws kvs → KRp M (mergeK ws more) (mergeD kvs ds) := by
  induction r with
  | nil => intro ws kvs h; exact h
  | cons h _ ih => intro ws kvs q; exact ih (q.put h)
theorem pairs_rp {M : Hp} : ∀ {vs : List V} {ds : List (Key × PyData)}, RpA M vs (ds.map pairK) → ∃ (ps : List Addr) (kvs : List (Key × V)), vs = ps.map V.ref ∧ KRp M kvs ds ∧ Paired (fun p kv => M p = some (.tup [kV kv.1, kv.2])) ps kvs
  | _, [], h => by
    cases h
    exact ⟨[], [], rfl, .nil, .nil⟩
  | _, (k, d) :: ds, h => by
    cases h with
    | cons r t =>
      obtain ⟨ps, kvs, e, h1, h2⟩ := pairs_rp t
      cases r with
      | @tup a xs _ g1 g2 =>
        cases g2 with
        | cons r1 t1 => cases t1 with
          | cons r2 t2 =>
            cases t2
            have ek := kD_kV r1
            subst ek
            exact ⟨a :: ps, (k, _) :: kvs, by rw [e]; rfl, .cons r2 h1, .cons g1 h2⟩
def dDictP (f : DF) : DF := fun ρ n Q => f ρ n fun r n1 => ∃ ds : List (Key × PyData), r.dat = some (.list (ds.map pairK)) ∧ Q (.dic (mergeD [] ds)) n1
theorem pdDictP {X : Cx} {e : Expr} {f : DF} (h : PE X e (tCB (fun xs H Q => ∃ (a : Addr) (ps : List Addr) (kvs : List (Key × V)), xs = [.ref a] ∧ SqL X.K H a (ps.map V.ref) ∧ Paired (fun p kv => SqT X.K H p [kV kv.1, kv.2]) ps kvs ∧
    ∀ p, H p = none → Q (.ref p) (upd H p (.dK (mergeK [] kvs)))) (tCons (tD f) tNil))) : PE X e (tD (dDictP f)) := h.imp fun σ H Q ⟨c, A, n, ρ, Q', E, hf, k⟩ => by
  refine ⟨c, A, n, ρ, _, E, hf, fun v r n1 H1 ⟨ds, ed, hq⟩ f1 o1 => ?_⟩
  have rp := o1.dat E ed
  have E1 := E.fr f1
  cases rp with
  | @lst l xs _ h1 h2 =>
    obtain ⟨ps, kvs, e1, hk, hp⟩ := pairs_rp h2
    subst e1
    have up : ∀ {ps : List Addr} {kvs : List (Key × V)}, Paired (fun p kv => msk (c.av A) H1 p = some (.tup [kV kv.1, kv.2])) ps kvs → Paired (fun p kv => SqT X.K H1 p [kV kv.1, kv.2]) ps kvs := fun {ps kvs} h => by
      induction h with
      | nil => exact .nil
      | cons a _ ih => exact .cons (SqT.of (msk_some a).2) ih
    refine ⟨l, ps, kvs, rfl, SqL.of (msk_some h1).2, up hp, fun p np => ?_⟩
    refine k _ _ n1 _ hq (f1.trans (Fr.new E1.g np)) (VOk.mono E f1 ⟨p, _, rfl, .of np, upd_same, (hk.merge (ws := []) (kvs := []) .nil).ex fun b o _ e => ?_⟩)
    obtain ⟨g1, g2⟩ := msk_some e
    have ne : b ≠ p := ne_of_none g2 np
    rw [msk_out fun z => z.elim g1 ne, upd_ne ne]
    exact g2
theorem merge_val : ∀ (ds : List (Key × PyData)) (acc : List (Key × PyData)), (ds.map (·.1)).Nodup → (∀ k v, (k, v) ∈ ds → valD (mergeD acc ds) k = some v) ∧ ∀ k, k ∉ ds.map (·.1) → valD (mergeD acc ds) k = valD acc k
  | [], acc, _ => ⟨fun k v h => (by cases h), fun k _ => rfl⟩
  | (k0, v0) :: ds, acc, h => by
    obtain ⟨h1, h2⟩ := List.nodup_cons.mp h
    obtain ⟨a, b⟩ := merge_val ds (putKD acc k0 v0) h2
    refine ⟨fun k v hm => ?_, fun k hk => ?_⟩
    · rcases List.mem_cons.mp hm with e | e
      · cases e
        show valD (mergeD (putKD acc k0 v0) ds) k0 = _
        rw [b k0 h1, valD_put, if_pos rfl]
      · exact a k v e
    · have hk' := fun z => hk (List.mem_cons.mpr z)
      show valD (mergeD (putKD acc k0 v0) ds) k = _
      rw [b k fun z => hk' (.inr z), valD_put, if_neg fun z => hk' (.inl z)]
theorem mergeD_len : ∀ (ds acc : List (Key × PyData)), (mergeD acc ds).length ≤ acc.length + ds.length
  | [], acc => Nat.le_refl _
  | q :: ds, acc => by
    have := mergeD_len ds (putKD acc q.1 q.2)
    have := putKD_len acc q.1 q.2
    show (mergeD (putKD acc q.1 q.2) ds).length ≤ acc.length + (ds.length + 1)
    omega
end

/-! ### sorted of data that are alike (tuples that begin with a text) -/
section
open PySem.Spec PyProof.Rows
def leD (b b' : V × PyData) : Bool := PySem.W.dataLe false Prod.snd b b'
def rSortD (K : PySem.W.Frag) : List V → Hp → VK → Prop := fun vs H Q => ∃ (a : Addr) (xs : List V) (ds : List PyData), vs = [V.ref a] ∧ SqL K H a xs ∧ DpAll K H xs ds ∧ PySem.W.AllAlike ds ∧ PySem.W.Sortable ds ∧ ds.length ≤ 100000 ∧ (∀ d ∈ ds, d.depth ≤ 20) ∧
  ∀ p, H p = none → Q (.ref p) (upd H p (.lst (((xs.zip ds).mergeSort leD).map Prod.fst)))
theorem zip_each {R : Value → V → Prop} {S : Value → PyData → Prop} : ∀ {xs : List V} {ds : List PyData} {us : List Value}, PySem.W.EachIs R us xs → PySem.W.EachIs S us ds → PySem.W.EachIs (fun u b => R u b.1) us (xs.zip ds) ∧ PySem.W.EachIs (fun u b => S u b.2) us (xs.zip ds)
  | _, _, _, .nil, .nil => ⟨.nil, .nil⟩
  | _, _, _, .cons h1 t1, .cons h2 t2 => by
    obtain ⟨a, b⟩ := zip_each t1 t2
    exact ⟨.cons h1 a, .cons h2 b⟩
theorem each_vals : ∀ {xs : List V} {us : List Value}, Vals xs us → PySem.W.EachIs (fun u x => RelV x u) us xs
  | _, _, .nil => .nil
  | _, _, .cons h t => .cons h (each_vals t)
theorem vals_each : ∀ {bs : List (V × PyData)} {us : List Value}, PySem.W.EachIs (fun u b => RelV b.1 u) us bs → Vals (bs.map Prod.fst) us
  | _, _, .nil => .nil
  | _, _, .cons h t => .cons h (vals_each t)
theorem dpAll_len {K : PySem.W.Frag} {H : Hp} : ∀ {xs : List V} {ds : List PyData}, DpAll K H xs ds → xs.length = ds.length
  | _, _, .nil => rfl
  | _, _, .cons _ t => congrArg Nat.succ (dpAll_len t)
theorem cr_sortD {X : Cx} (hu : X.A.units + 65 < cLine) : CallR X (.builtin "sorted") (rSortD X.K) := by
  intro pins s σ H vs us Q I r h
  obtain ⟨a, xs, ds, rfl, hs, hd, hal, hk, hlen, hdep, q⟩ := h
  obtain ⟨its, rv, hl, hz⟩ := I.list hs
  obtain ⟨u, rfl, ru⟩ := vals1 r
  obtain rfl : u = Value.ref a := ru
  obtain ⟨as, hr⟩ := Dp.readsAll I ds xs its hd rv
  have ll := dpAll_len hd
  have em : (xs.zip ds).map Prod.snd = ds := List.map_snd_zip (by omega)
  have ed : PySem.W.EachIs (fun v b => ∃ as, Reads s.heap v b as) its ds := PySem.W.readsAll_each (enc := fun d : PyData => d) (by rw [List.map_id']; exact hr)
  obtain ⟨e1, e2⟩ := zip_each (each_vals rv) ed
  refine PySem.W.sorted_data (enc := Prod.snd) hl.isList e1 e2 (by rw [em]; exact hal) (by rw [em]; exact hk) (by rw [List.length_zip]; show min _ _ ≤ 16777216; omega) (fun b hb => ?_) fun out lo eo => ?_
  · have := hdep b.2 (by rw [← em]; exact List.mem_map.mpr ⟨b, hb, rfl⟩)
    omega
  · have rv2 : Vals (((xs.zip ds).mergeSort leD).map Prod.fst) out := vals_each eo
    obtain ⟨n, hn⟩ := sortedAll_at s.heap its out.toArray
    refine ⟨.ref (s.heap.objs.size + 1), upd H (s.heap.objs.size + 1) (.lst (((xs.zip ds).mergeSort leD).map Prod.fst)), I.laid (t' := s.toks) (fun b o e => sortedAll_old e) (Nat.le_succ _) ⟨?_, out, n, rv2, hn⟩, rfl, q _ (I.hok.fresh (Nat.le_succ _))⟩
    rw [List.length_map, List.length_mergeSort, List.length_zip]
    show min _ _ ≤ 16777216
    omega
end
section
variable [Fam] [Tabz]
def leP (d e : PyData) : Bool := PySem.W.dataLe false (fun x : PyData => x) d e
def dSortD (f : DF) : DF := fun ρ n Q => f ρ n fun r n1 => ∃ ds, r.dat = some (.list ds) ∧ PySem.W.AllAlike ds ∧ PySem.W.Sortable ds ∧ ds.length ≤ 100000 ∧ (∀ d ∈ ds, d.depth ≤ 20) ∧ Q (.own (ds.mergeSort leP)) n1
theorem rpa_zip {M : Hp} : ∀ {xs : List V} {ds : List PyData}, RpA M xs ds → ∀ b ∈ xs.zip ds, Rp M b.1 b.2
  | _, _, .nil, b, h => by cases h
  | _, _, .cons r t, b, h => by
    rcases List.mem_cons.mp h with e | e
    · rw [e]; exact r
    · exact rpa_zip t b e
theorem rpa_pairs {M : Hp} : ∀ {bs : List (V × PyData)}, (∀ b ∈ bs, Rp M b.1 b.2) → RpA M (bs.map Prod.fst) (bs.map Prod.snd)
  | [], _ => .nil
  | b :: bs, h => .cons (h b List.mem_cons_self) (rpa_pairs fun x hx => h x (List.mem_cons_of_mem _ hx))
theorem pdSortD {X : Cx} {e : Expr} {f : DF} (h : PE X e (tCB (rSortD X.K) (tCons (tD f) tNil))) : PE X e (tD (dSortD f)) := h.imp fun σ H Q ⟨c, A, n, ρ, Q', E, hf, k⟩ => by
  refine ⟨c, A, n, ρ, _, E, hf, fun v r n1 H1 ⟨ds, ed, hal, hk, hlen, hdep, hq⟩ f1 o1 => ?_⟩
  have rp := o1.dat E ed
  have E1 := E.fr f1
  cases rp with
  | @lst l xs _ h1 h2 =>
    have dp := up_msk (K := X.K) (Rp.lst h1 h2)
    cases dp with
    | lst hs ha =>
      have hs2 : SqL X.K H1 l xs := SqL.of (msk_some h1).2
      have ha2 : DpAll X.K H1 xs ds := by
        have all : ∀ {vs : List V} {es : List PyData}, RpA (msk (c.av A) H1) vs es → DpAll X.K H1 vs es := fun {vs es} q => by
          induction q using RpA.rec (motive_1 := fun _ _ _ => True) with
          | nil => exact .nil
          | cons r t _ ih => exact .cons (up_msk r) ih
          | _ => trivial
        exact all h2
      refine ⟨l, xs, ds, rfl, hs2, ha2, hal, hk, hlen, hdep, fun p np => ?_⟩
      have ll := RpA.length h2
      have es : ((xs.zip ds).mergeSort leD).map Prod.snd = ds.mergeSort leP := by
        rw [List.map_mergeSort (r := leD) (s := leP) (f := Prod.snd) (l := xs.zip ds) fun a _ b _ => rfl, List.map_snd_zip (by omega)]
      have rr : RpA (msk (c.av A) H1) (((xs.zip ds).mergeSort leD).map Prod.fst) (ds.mergeSort leP) := by
        rw [← es]
        exact rpa_pairs fun b hb => rpa_zip h2 b (List.mem_mergeSort.mp hb)
      exact k _ _ n1 _ hq (f1.trans (Fr.new E1.g np)) (VOk.mono E f1 (own_new E1 np rr))
end

/-! ### sorted of pairs whose first parts are ints, all unlike -/
section
open PySem.Spec PyProof.Rows SrtO
variable {prog : Program} {w : World} {A : Around} {s : Shared}
def IsP (h : Heap) (v : Value) (x : Int) : Prop := ∃ a o t y n, v = .ref a ∧ h.get? a = some o ∧ o.cls = .type "tuple" ∧ o.data = .seq #[.int x t, y] n
theorem IsP.keeps {h h' : Heap} {v : Value} {x : Int} (p : IsP h v x) (k : ∀ b o, h.get? b = some o → o.cls = .type "tuple" → h'.get? b = some o) : IsP h' v x := by
  obtain ⟨a, o, t, u, n, e, ho, hc, hd⟩ := p
  exact ⟨a, o, t, u, n, e, k _ _ ho hc, hc, hd⟩
theorem firstsP {h : Heap} : ∀ {vs : List Value}, (∀ v ∈ vs, ∃ x, IsP h v x) → ∃ fs : List Value, PySem.W.KatTups h vs fs ∧ fs.length = vs.length ∧ ∀ f ∈ fs, ∃ x t, f = Value.int x t
  | [], _ => ⟨[], PySem.W.KatTups.nil, rfl, fun _ hm => by simp at hm⟩
  | v :: vs, hp => by
    obtain ⟨fs, h1, h2, h3⟩ := firstsP (vs := vs) fun v' hm => hp v' (List.mem_cons_of_mem _ hm)
    obtain ⟨x, a, o, t, u, n, e, ho, hc, hd⟩ := hp v (List.mem_cons_self ..)
    subst e
    refine ⟨.int x t :: fs, PySem.W.KatTups.cons ho hc hd rfl h1, by rw [List.length_cons, List.length_cons, h2], fun f hm => ?_⟩
    rcases List.mem_cons.mp hm with rfl | hm
    · exact ⟨x, t, rfl⟩
    · exact h3 f hm
theorem one_cmp {vs : List Value} {k : Value → Int} (hp : ∀ v ∈ vs, IsP s.heap v (k v)) (inj : ∀ v ∈ vs, ∀ u ∈ vs, k v = k u → v = u) : Cmp prog w A s (tuples' true) (fun p => p.1 ∈ vs) (lt2 fun v u => decide (k v < k u)) := by
  intro p q hm hm'
  have h1 := hp _ hm
  have h2 := hp _ hm'
  have hi := inj _ hm _ hm'
  show wpAny (model prog w) A (keyLt' (tuples' true) p.1 q.1) (fun r s' => s' = s ∧ r = decide (k p.1 < k q.1)) (fun _ _ => False) s
  generalize k p.1 = x at h1 hi ⊢
  generalize k q.1 = x' at h2 hi ⊢
  obtain ⟨a, o, t, y, n, e, ho, hc, hd⟩ := h1
  obtain ⟨a', o', t', y', n', e', ho', hc', hd'⟩ := h2
  rw [e, e']
  refine PySem.W.kat_lt ho hd ho' hd' ?_
  show PySem.W.KatLex prog w A true (decide (2 < 2)) _ [(.int x t, .int x' t'), (y, y')] 0 s
  refine PySem.W.kat_cons (SeqAt.EqAt.int_int x t x' t' prog w _ _ ?_)
  refine PySem.W.kat_go (fun e1 => ?_) (fun e1 => ?_)
  · have ex : x = x' := by simpa using e1
    have ev := hi ex
    rw [e, e'] at ev
    cases ev
    rw [ho] at ho'
    cases ho'
    rw [hd] at hd'
    have ey : y = y' := by
      injection hd' with z _
      have z := congrArg (fun a : Array Value => a[1]?) z
      simpa using z
    subst ey
    refine PySem.W.kat_yes (PySem.W.kat_cons (SeqAt.EqAt.same y prog w _ _ ?_))
    refine PySem.W.kat_go (fun _ => ?_) (fun e2 => by cases e2)
    exact PySem.W.kat_yes (PySem.W.kat_nil ⟨rfl, (decide_eq_false (by omega)).symm⟩)
  · exact PySem.W.kat_no (oneLt_int ⟨rfl, rfl⟩)
theorem ones_sortableO {a : Addr} {vs : List Value} {k : Value → Int} (h0 : 0 < vs.length) (hp : ∀ v ∈ vs, IsP s.heap v (k v)) (inj : ∀ v ∈ vs, ∀ u ∈ vs, k v = k u → v = u) (ha : ∀ o, s.heap.get? a = some o → o.cls ≠ .type "tuple") : SortableO prog w A s a vs fun v u => decide (k v < k u) := by
  intro h' keep
  have hp' : ∀ v ∈ vs, IsP h' v (k v) := fun v hm => (hp v hm).keeps fun b o e c => keep b o (fun z => by subst z; exact ha o e c) e
  obtain ⟨fs, h1, h2, h3⟩ := firstsP fun v hm => ⟨_, hp' v hm⟩
  refine ⟨tuples' true, fun Q E hq => ?_, one_cmp hp' inj⟩
  refine PySem.W.kat_kind (T := .type "int") h1 (by omega) (fun f hm => ?_) (by rfl) ?_
  · obtain ⟨x, t, rfl⟩ := h3 f hm
    exact PySem.W.Looks.now
  · have e : (Value.type "int" != Value.type "tuple") = true := by first | decide +kernel | rfl | decide
    rw [e]
    exact hq
theorem swo_one (k : Value → Int) : Swo fun v u => decide (k v < k u) := by
  refine ⟨fun x y h => ?_, fun x y z h1 h2 => ?_⟩
  · have a := of_decide_eq_true h
    exact decide_eq_false (by omega)
  · have a := of_decide_eq_false h1
    have b := of_decide_eq_false h2
    exact decide_eq_false (by omega)
def rSortK (K : PySem.W.Frag) : List V → Hp → VK → Prop := fun vs H Q => ∃ (a : Addr) (xs : List V) (k : V → Int), vs = [V.ref a] ∧ SqL K H a xs ∧ (∀ x ∈ xs, ∃ t y, x = V.ref t ∧ H t = some (.tup [.int (k x), y])) ∧ (∀ x ∈ xs, ∀ y ∈ xs, k x = k y → x = y) ∧
  ∀ ys p, ys.Perm xs → ys.Pairwise (fun x y => k x ≤ k y) → H p = none → Q (.ref p) (upd H p (.lst ys))
theorem cr_sortK {X : Cx} : CallR X (.builtin "sorted") (rSortK X.K) := by
  intro pins s σ H vs us Q I r h
  obtain ⟨a, xs, k, rfl, hs, hx, inj, q⟩ := h
  obtain ⟨its, rv, hl, hz⟩ := I.list hs
  obtain ⟨u, rfl, ru⟩ := vals1 r
  obtain rfl : u = Value.ref a := ru
  obtain ⟨e1, e2⟩ := refs_back rv fun x m => by
    obtain ⟨t, y, e, _⟩ := hx x m
    exact ⟨t, e⟩
  have back : ∀ v ∈ its, backV v ∈ xs := fun v hv => by
    rw [e1]
    exact List.mem_map.mpr ⟨v, hv, rfl⟩
  have hp : ∀ v ∈ its, IsP s.heap v (k (backV v)) := fun v hv => by
    obtain ⟨t, rfl⟩ := e2 v hv
    have hm : V.ref t ∈ xs := back _ hv
    obtain ⟨t', y, e, ht⟩ := hx _ hm
    cases e
    obtain ⟨_, its2, r2, o, ho, hc, n, hd⟩ := I.hok _ _ ht
    obtain ⟨u1, u2, rfl, ri, rj⟩ := vals2 r2
    obtain ⟨t1, rfl⟩ := ri
    exact ⟨t, o, t1, u2, n, rfl, ho, hc, hd⟩
  have hi : ∀ v ∈ its, ∀ u ∈ its, k (backV v) = k (backV u) → v = u := fun v hv u hu e => by
    have := inj _ (back v hv) _ (back u hu) e
    obtain ⟨t, rfl⟩ := e2 v hv
    obtain ⟨t', rfl⟩ := e2 u hu
    have h : V.ref t = V.ref t' := this
    cases h
    rfl
  refine sorted_ord (swo_one fun u => k (backV u)) hl.isList (by rw [← rv.length]; exact hz) (fun h2 h₁ a' ha kk => ?_) fun out h1 h2 => ?_
  · refine ones_sortableO (s := { s with heap := h₁ }) (by omega) (fun v hm => (hp v hm).keeps fun b o e _ => (kk b o e).2) hi fun o e => ?_
    have e' : some o = some (seqObj "list" its.toArray 0) := e.symm.trans ha
    cases e'
    intro c
    exact absurd (Value.type.inj c) (by decide)
  · have h3 : ∀ u ∈ out, ∃ a, u = Value.ref a := fun u hu => e2 u (h2.perm.mem_iff.mp hu)
    obtain ⟨n, hn⟩ := sortedAll_at s.heap its out.toArray
    have pm : (out.map backV).Perm xs := by
      rw [e1]
      exact h2.perm.map backV
    refine ⟨.ref (s.heap.objs.size + 1), upd H (s.heap.objs.size + 1) (.lst (out.map backV)), I.laid (t' := s.toks) (fun b o e => sortedAll_old e) (Nat.le_succ _) ⟨?_, out, n, vals_back h3, hn⟩, rfl, q _ _ pm (List.pairwise_map.mpr (h1.imp fun {x y} h => ?_)) (I.hok.fresh (Nat.le_succ _))⟩
    · rw [pm.length_eq]
      exact hz
    · have := of_decide_eq_false h
      omega
end
section
variable [Fam] [Tabz]
def keyI : PyData → Int
  | .tuple (.int i :: _) => i
  | _ => 0
def dSortK (f : DF) : DF := fun ρ n Q => f ρ n fun r n1 => ∃ ds, r.dat = some (.list ds) ∧ (∀ d ∈ ds, ∃ i e, d = .tuple [.int i, e]) ∧ (ds.map keyI).Nodup ∧ ∀ out : List PyData, out.Perm ds → out.Pairwise (fun d e => keyI d ≤ keyI e) → Q (.own out) n1
theorem pdSortK {X : Cx} {e : Expr} {f : DF} (h : PE X e (tCB (rSortK X.K) (tCons (tD f) tNil))) : PE X e (tD (dSortK f)) := h.imp fun σ H Q ⟨c, A, n, ρ, Q', E, hf, k⟩ => by
  refine ⟨c, A, n, ρ, _, E, hf, fun v r n1 H1 ⟨ds, ed, hsh, hnd, hq⟩ f1 o1 => ?_⟩
  have rp := o1.dat E ed
  have E1 := E.fr f1
  cases rp with
  | @lst l xs _ h1 h2 =>
    obtain ⟨d1, d2⟩ := h2.datOf
    have hx : ∀ y ∈ xs, datOf (msk (c.av A) H1) y ∈ ds := fun y hy => by
      rw [d1]
      exact List.mem_map.mpr ⟨y, hy, rfl⟩
    have nd2 : (xs.map fun y => keyI (datOf (msk (c.av A) H1) y)).Nodup := by
      rw [d1, List.map_map] at hnd
      exact hnd
    refine ⟨l, xs, fun y => keyI (datOf (msk (c.av A) H1) y), rfl, SqL.of (msk_some h1).2, fun y hy => ?_, fun x hx' y hy e => ?_, fun ys p pm so np => ?_⟩
    · obtain ⟨i, e, q⟩ := hsh _ (hx y hy)
      have ry := d2 y hy
      rw [q] at ry
      show ∃ t y1, y = V.ref t ∧ H1 t = some (.tup [.int (keyI (datOf (msk (c.av A) H1) y)), y1])
      rw [q]
      cases ry with
      | @tup t zs _ g1 g2 => cases g2 with
        | @cons z1 _ zs1 _ r1 t1 => cases t1 with
          | cons r2 t2 =>
            cases t2
            cases r1
            exact ⟨t, _, rfl, (msk_some g1).2⟩
    · have inj : ∀ l : List V, (l.map fun y => keyI (datOf (msk (c.av A) H1) y)).Nodup → ∀ x ∈ l, ∀ y ∈ l, keyI (datOf (msk (c.av A) H1) x) = keyI (datOf (msk (c.av A) H1) y) → x = y := fun l => by
        induction l with
        | nil => intro _ x h; cases h
        | cons a l ih =>
          intro hn x hx y hy e
          obtain ⟨n1, n2⟩ := List.nodup_cons.mp hn
          rcases List.mem_cons.mp hx with zx | zx
          · rcases List.mem_cons.mp hy with zy | zy
            · rw [zx, zy]
            · rw [zx] at e
              exact absurd (List.mem_map.mpr ⟨y, zy, e.symm⟩) n1
          · rcases List.mem_cons.mp hy with zy | zy
            · rw [zy] at e
              exact absurd (List.mem_map.mpr ⟨x, zx, e⟩) n1
            · exact ih n2 x zx y zy e
      exact inj xs nd2 x hx' y hy e
    · have rr : RpA (msk (c.av A) H1) ys (ys.map (datOf (msk (c.av A) H1))) := by
        have : ∀ l : List V, (∀ y ∈ l, Rp (msk (c.av A) H1) y (datOf (msk (c.av A) H1) y)) → RpA (msk (c.av A) H1) l (l.map (datOf (msk (c.av A) H1))) := fun l => by
          induction l with
          | nil => exact fun _ => .nil
          | cons a l ih => exact fun h => .cons (h a List.mem_cons_self) (ih fun y hy => h y (List.mem_cons_of_mem _ hy))
        exact this ys fun y hy => d2 y (pm.mem_iff.mp hy)
      refine k _ _ n1 _ (hq (ys.map (datOf (msk (c.av A) H1))) ?_ (List.pairwise_map.mpr so)) (f1.trans (Fr.new E1.g np)) (VOk.mono E f1 (own_new E1 np rr))
      rw [d1]
      exact pm.map _
end

/-! ### text + text -/
def opAddS : PyData → PyData → Option DV
  | .str a, .str b => if a.length + b.length ≤ 200000 then some (.d (.str (a ++ b))) else none
  | _, _ => none
def rAddT : R2 := fun x y H Q => ∃ i j, x = .str i ∧ y = .str j ∧ i.length + j.length ≤ sizeLine ∧ Q (.str (i ++ j)) H
theorem r2AddS : R2D rAddT opAddS := by
  intro t B H v w a b z Q hB ra rb e k
  cases ra <;> cases rb <;> simp only [opAddS, reduceCtorEq] at e
  split at e
  · rename_i hz
    cases e
    exact ⟨_, _, rfl, rfl, Nat.le_trans hz (by decide), k _ H (fun _ _ h => h) (Rp.str _)⟩
  · cases e

/-! ### k in d, k not in d: a dict of one's own -/
section
variable [Fam] [Tabz]
theorem din_le {neg : Bool} {i : Nat} {fe : DF} (σ : L2.St) (H : Hp) (Q : Bool → Hp → Prop) (q : tDT (dTest (dDIn neg i fe)) σ H Q) :
    tD fe σ H fun y H1 => tVar i σ H1 fun x H2 => ∃ a o, x = .ref a ∧ DGet H2 a y o ∧ ∃ b, V.bl (if neg then !o.isSome else o.isSome) = .bl b ∧ Q b H2 := by
  obtain ⟨c, A, n, ρ, Q', E, ⟨⟨kvs0, e0⟩, hf⟩, k⟩ := q
  refine ⟨c, A, n, ρ, _, E, hf, fun v x n1 H1 ⟨key, ex, kvs, e1, hq⟩ f1 o1 => ?_⟩
  subst ex
  have E1 := E.fr f1
  obtain ⟨a, ws, k1, k2, k3, k4⟩ := E1.slot i _ e1
  obtain rfl := kD_kV (show Rp _ v (kD key) from o1)
  have es : (valV ws key).isSome = (valD kvs key).isSome := by
    rcases k4.val key with ⟨q1, q2⟩ | ⟨u, d, q1, q2, rp⟩ <;> rw [q1, q2] <;> rfl
  obtain ⟨b, eb, hq⟩ := hq
  cases eb
  refine ⟨.ref a, k2, a, _, rfl, .inl ⟨ws, key, .inl k3, rfl, rfl⟩, _, rfl, ?_⟩
  rw [es]
  exact k _ n1 H1 hq f1
theorem ptCmpDIn {X : Cx} {e o : Expr} {pos : Pos} {i : Nat} {fe : DF} (hu : X.A.units + 1 < cLine) (ho : PE X o (tVar i)) (he : PE X e (tD fe)) (hm : behindInMarks .In o = false := by rfl) : PT X (.Compare e [.In] [o] pos) (tDT (dTest (dDIn false i fe))) := (pt_cmp (pc_din hu he ho) hm).imp fun σ H Q q => din_le σ H Q q
theorem ptCmpDNotIn {X : Cx} {e o : Expr} {pos : Pos} {i : Nat} {fe : DF} (hu : X.A.units + 1 < cLine) (ho : PE X o (tVar i)) (he : PE X e (tD fe)) (hm : behindInMarks .NotIn o = false := by rfl) : PT X (.Compare e [.NotIn] [o] pos) (tDT (dTest (dDIn true i fe))) := (pt_cmp (pc_dnotin hu he ho) hm).imp fun σ H Q q => din_le σ H Q q
end

/-! ### sorted(d): the keys of a dict, all ints, any number of them -/
section
open PySem PySem.Spec PyProof.Rows
def rSortKeys : List V → Hp → VK → Prop := fun xs H Q => ∃ (a : Addr) (kvs : List (Key × V)) (ks : List Int), xs = [.ref a] ∧ Rd H a (.dK kvs) ∧ kvs.map (·.1) = ks.map Sum.inl ∧ ks.length ≤ 100000 ∧
  ∀ (ys : List Int) (p : Addr), ys.Perm ks → ys.Pairwise (· ≤ ·) → H p = none → Q (.ref p) (upd H p (.lst (ys.map V.int)))
theorem keys_ints {acc : List Value} {ks : List Int} (hl : acc.length = ks.length) (h : ∀ (j : Nat) (v : Value), acc[j]? = some v → ∃ x, ks[j]? = some x ∧ keyIs (Sum.inl x) v = true) : IntsAre acc ks := by
  induction acc generalizing ks with
  | nil =>
    cases ks with
    | nil => exact .nil
    | cons _ _ => cases hl
  | cons v acc ih =>
    cases ks with
    | nil => cases hl
    | cons k ks =>
      obtain ⟨x, e1, e2⟩ := h 0 v rfl
      cases e1
      rcases keyIs_shape (show keyIs (Sum.inl k) v = true from e2) with ⟨i, t, ek, ev⟩ | ⟨z, t, ek, ev⟩
      · cases ek
        subst ev
        exact .cons _ _ (ih (Nat.succ.inj hl) fun j v e => h (j + 1) v e)
      · cases ek
theorem cr_sortKeys {X : Cx} (hcalm : X.calm = true) : CallR X (.builtin "sorted") rSortKeys := by
  intro pins s σ H xs us Q I r ⟨a, kvs, ks, ex, hd, hks, hb, q⟩
  subst ex
  rw [Vals.ref1 r]
  obtain ⟨z, lo, vs, rel, dd⟩ := dk_rd I.hok hd
  obtain ⟨ep, hat⟩ := dd.dictAt
  have hk : vs.map (·.1) = ks.map Sum.inl := rel.keys.symm.trans hks
  have hl : vs.length = ks.length := by
    have e := congrArg List.length hk
    rwa [List.length_map, List.length_map] at e
  have big : ks.length ≤ sizeLine := Nat.le_trans hb (by decide)
  refine Calls.call_function_entry kind_sorted plain_sorted entry_sorted (args_sorted1 _) ?_
  unfold Builtin.«sorted»
  refine wpAny_bind (m := checkCount "sorted" 1 1 _) (wpAny_pure ?_)
  refine wpAny_bind (PySem.W.kdu_collect (A := X.A.in1) (PySem.W.kdl_dict (knd := mixKind X.prog X.w) (kvs := vs) (ep := ep) lo) (I.ok.hd hcalm) hat (by rw [hl]; exact big) fun h' tk acc kp got => ?_)
  have al : acc.toList.length = ks.length := by rw [Array.length_toList, got.1, hl]
  have hS : IntsAre acc.toList ks := keys_ints al fun j v e => by
    obtain ⟨k, x, e1, e2⟩ := got.2 j v (by rw [← Array.getElem?_toList]; exact e)
    have e3 : (vs.map (·.1))[j]? = some k := by rw [List.getElem?_map, e1]; rfl
    rw [hk, List.getElem?_map] at e3
    cases e4 : ks[j]? with
    | none => rw [e4] at e3; cases e3
    | some y =>
      rw [e4] at e3
      cases e3
      exact ⟨y, rfl, e2⟩
  have I1 : Inv X pins σ H { s with heap := h', toks := tk } := I.kept kp
  refine wpAny_bind (wpAny_newList ?_ (by rw [al]; exact big))
  have ho : (h'.push (seqObj "list" acc.toList.toArray 0)).get? h'.objs.size = some (seqObj "list" acc.toList.toArray 0) := Heap.get?_push_size _ rfl
  show wpAny _ _ _ _ _ { s with heap := h'.push (seqObj "list" acc.toList.toArray 0), toks := tk }
  refine wpAny_bind (wpAny_holding (wpAny_call_entry slot_list_sort ⟨_, ho, rfl⟩ entry_list_sort
    (SrtO.list_sort_ord SrtO.swo_int ho (by rw [al]; exact big) (fun h2 => SrtO.ints_sortable hS h2) fun out h1 h2 => ⟨_, rfl, ?_⟩) (args_list_sort _)))
  obtain ⟨g1, g2, g3⟩ := SrtO.ints_out hS h1 h2
  obtain ⟨e', he'⟩ := sortedHeap_at (vs := acc.toList) (out := out.toArray) ho
  refine wpAny_pure ⟨_, rfl, .ref h'.objs.size, upd H h'.objs.size (.lst ((out.map SrtO.iv).map V.int)), I1.laid (t' := tk) (fun b u e => ?_) (Nat.le_refl _)
    (show ObjOk X.prog X.w _ _ _ (.lst ((out.map SrtO.iv).map V.int)) from ⟨by rw [List.length_map, g2.length_eq]; exact big, out, e', vals_of_ints g1, he'⟩), rfl, q _ _ g2 g3 (I1.hok.fresh (Nat.le_refl _))⟩
  have lt : b < h'.objs.size := Heap.lt_size e
  rw [sortedHeap_old (Nat.ne_of_lt lt) (by rw [size_push']; exact Nat.lt_succ_of_lt lt)]
  exact Heap.get?_push_of_some _ e
end
section
variable [Fam] [Tabz]
theorem KRp.keys {M : Hp} {ws : List (Key × V)} {kvs : List (Key × PyData)} (r : KRp M ws kvs) : ws.map (·.1) = kvs.map (·.1) := by
  induction r with
  | nil => rfl
  | cons _ _ ih => rw [List.map_cons, List.map_cons, ih]
def dSortKeys (i : Nat) : DF := fun ρ n Q => ∃ kvs ks, ρ[i]? = some (.dic kvs) ∧ kvs.map (·.1) = ks.map Sum.inl ∧ ks.length ≤ 100000 ∧ ∀ out : List Int, out.Perm ks → out.Pairwise (· ≤ ·) → Q (.own (out.map PyData.int)) n
theorem pdSortKeys {X : Cx} {e : Expr} {i : Nat} (h : PE X e (tCB rSortKeys (tCons (tVar i) tNil))) : PE X e (tD (dSortKeys i)) := h.imp fun σ H Q ⟨c, A, n, ρ, Q', E, ⟨kvs, ks, e0, ek, hl, hq⟩, k⟩ => by
  obtain ⟨a, ws, h1, h2, h3, h4⟩ := E.slot i _ e0
  refine ⟨_, h2, a, ws, ks, rfl, .inl h3, by rw [h4.keys]; exact ek, hl, fun out p pm so np => ?_⟩
  exact k _ _ n _ (hq out pm so) (Fr.new E.g np) (own_new E np (rp_intsS out))
end
section
variable [Fam] [Tabz]
theorem EnvA.sideO {c : EC} {A : Nat → Option Addr} {n : Int} {σ : L2.St} {H : Hp} {ρ : List DV} (E : EnvA c A n σ H ρ) {D : Addr} {o9 : HO} (ho : ∀ ps, o9 ≠ HO.tbl ps) (hD : H D = none) (M : Nat) : ∃ k A', ρ.length ≤ k ∧ M ≤ k ∧ A' k = some D ∧ (∀ j, j ≠ k → A' j = A j) ∧ A k = none ∧ EnvA c A' n σ (upd H D o9) ρ := by
  obtain ⟨N, hN⟩ := E.fin
  obtain ⟨Z, kN, kR, kM⟩ : ∃ Z, N ≤ Z ∧ ρ.length ≤ Z ∧ M ≤ Z := ⟨N + ρ.length + M, by omega, by omega, by omega⟩
  have same : ∀ j, j ≠ Z → (fun j => if j = Z then some D else A j) j = A j := fun j z => by show (if j = Z then some D else A j) = _; rw [if_neg z]
  have mine : (fun j => if j = Z then some D else A j) (Z) = some D := by show (if Z = Z then some D else A _) = _; rw [if_pos rfl]
  refine ⟨Z, fun j => if j = Z then some D else A j, kR, kM, mine, same, hN _ kN, ?_⟩
  have s := same_new (o := o9) hD
  have xt : Xt (msk (c.av A) H) (msk (c.av fun j => if j = Z then some D else A j) (upd H D o9)) := fun b o q e => by
    obtain ⟨h1, h2⟩ := msk_some e
    rw [msk_out]
    · exact s b o h2
    · rintro (z | ⟨j, z⟩)
      · exact h1 (.inl z)
      · have z' : (if j = Z then some D else A j) = some b := z
        split at z'
        · cases z'
          rw [hD] at h2
          cases h2
        · exact h1 (.inr ⟨j, z'⟩)
  refine ⟨fun b o p q e => s b o (E.keep b o p q e), c.Gm n H _ E.g (fun b o _ _ h => s b o h) fun b o _ h => s b o h, fun j a e => ?_, fun j a e => ?_, fun i j a e1 e2 => ?_, fun i x e => ?_, E.len, fun p hp => (E.pin p hp).ex xt, ⟨Z + 1, fun k hk => ?_⟩, fun j a x e1 e2 => ?_⟩
  · have e' : (if j = Z then some D else A j) = some a := e
    split at e'
    · cases e'
      exact (Fresh.of hD).fr E.fr0
    · exact E.new j a e'
  · have e' : (if j = Z then some D else A j) = some a := e
    split at e'
    · cases e'
      exact ⟨_, upd_same, ho⟩
    · obtain ⟨o, h1, h2⟩ := E.has j a e'
      exact ⟨o, s a o h1, h2⟩
  · have e1' : (if i = Z then some D else A i) = some a := e1
    have e2' : (if j = Z then some D else A j) = some a := e2
    split at e1' <;> split at e2'
    · rename_i z1 z2
      rw [z1, z2]
    · cases e1'
      obtain ⟨o, h1, _⟩ := E.has j D e2'
      rw [hD] at h1
      cases h1
    · cases e2'
      obtain ⟨o, h1, _⟩ := E.has i D e1'
      rw [hD] at h1
      cases h1
    · exact E.inj i j a e1' e2'
  · have ni : i ≠ Z := by
      have := (List.getElem?_eq_some_iff.mp e).1
      omega
    show SlOk _ _ _ (if i = Z then some D else A i) _ _
    rw [if_neg ni]
    exact (E.slot i x e).ex xt fun a o _ _ h => s a o h
  · show (if k = Z then some D else A k) = none
    rw [if_neg (by omega)]
    exact hN k (by omega)
  · have nj : j ≠ Z := by
      have := (List.getElem?_eq_some_iff.mp e2).1
      omega
    have e1' : (if j = Z then some D else A j) = some a := e1
    rw [if_neg nj] at e1'
    exact E.mine j a x e1' e2
/-- {k: v} -/
def dDisp1 (fk fv : DF) : DF := fun ρ n Q => fk ρ n fun x n1 => ∃ key : Key, x = .d (kD key) ∧ fv ρ n1 fun y n2 => ∃ z, y.dat = some z ∧ Q (.dic [(key, z)]) n2
theorem pdDisp1 {X : Cx} {k v : Expr} {pos : Pos} {fk fv : DF} (hk : PE X k (tD fk)) (hv : PE X v (tD fv)) : PE X (.Dict [some k] [v] pos) (tD (dDisp1 fk fv)) := (pe_disp (pps_cons hk hv pps_nil) rfl rfl (by simp) (by show 1 ≤ 15; decide)).imp fun σ H Q ⟨c, A, n, ρ, Q', E, hf, k⟩ => by
  intro p np
  obtain ⟨kp, A1, _, _, hA1, same, hAk, E0⟩ := E.sideO (o9 := .dK []) (fun ps z => by cases z) np 0
  have f0 : Fr c n H (upd H p (.dK [])) := Fr.new E.g np
  refine ⟨c, A1, n, ρ, _, E0, hf, fun xv xr n1 H1 ⟨key, ex, hg⟩ f1 o1 => ⟨c, A1, n1, ρ, _, E0.fr f1, hg, fun yv yr n2 H2 ⟨z, ez, hq⟩ f2 o2 => ?_⟩⟩
  subst ex
  obtain rfl := kD_kV (show Rp _ xv (kD key) from o1)
  have f12 := f1.trans f2
  have np9 : ¬ c.P p := fun b => (E0.nP hA1) (c.PB p b)
  have h2 : H2 p = some (.dK []) := f12.1 p _ np9 (fun _ z => by cases z) upd_same
  have rv : Rp (msk (c.av A1) H2) yv z := o2.dat (E0.fr f1) ez
  refine ⟨h2, [(key, yv)], rfl, by show 1 ≤ 15; decide, ?_⟩
  have fin : Fr c n2 H (upd H2 p (.dK (mergeK [] [(key, yv)]))) := by
    have f := f0.trans f12
    refine ⟨fun b o q1 q2 hb => ?_, c.Gm n2 H2 _ f.2 (fun b o q1 q2 hb => ?_) fun b o pb hb => ?_⟩
    · rw [upd_ne (ne_of_none hb np)]
      exact f.1 b o q1 q2 hb
    · have ne : b ≠ p := fun z => by
        rw [z, h2] at hb
        cases hb
        exact q2 _ rfl
      rw [upd_ne ne]
      exact hb
    · have ne : b ≠ p := fun z => np9 (z ▸ pb)
      rw [upd_ne ne]
      exact hb
  refine k _ _ n2 _ hq fin ⟨p, _, rfl, .of np, upd_same, .cons (rv.ex fun b o _ e => ?_) .nil⟩
  obtain ⟨g1, g2⟩ := msk_some e
  have ne : b ≠ p := fun z => g1 (.inr ⟨kp, by rw [z]; exact hA1⟩)
  rw [msk_out, upd_ne ne]
  · exact g2
  · rintro (z | z)
    · rcases z with z | ⟨j, z⟩
      · exact g1 (.inl z)
      · by_cases e9 : j = kp
        · rw [e9, hAk] at z
          cases z
        · exact g1 (.inr ⟨j, by rw [same j e9]; exact z⟩)
    · exact ne z
end

/-! ### min of a list of pairs of ints -/
abbrev pdP (p : Int × Int) : PyData := .tuple [.int p.1, .int p.2]
def LeastP (ps : List (Int × Int)) (m : Int × Int) : Prop := m ∈ ps ∧ ∀ q ∈ ps, m.1 < q.1 ∨ (m.1 = q.1 ∧ m.2 ≤ q.2)
theorem dataLt_pp (p q : Int × Int) : PySem.W.dataLt (pdP p) (pdP q) = decide (p.1 < q.1 ∨ (p.1 = q.1 ∧ p.2 < q.2)) := by
  rw [PySem.W.dataLt_tuple, PySem.W.dataLt_cons (by simp [PySem.W.alike]), PySem.W.dataLt_cons (by simp [PySem.W.alike]), PySem.W.dataLt_int, PySem.W.dataLt_int]
  have e : PyProof.Rows.lexLt PyProof.Rows.itemOrd (PySem.W.keyToksAll []) (PySem.W.keyToksAll []) = false := PyProof.Rows.lex_irrefl _
  rw [e]
  simp only [PyData.eqv, beq_iff_eq]
  by_cases h1 : p.1 = q.1 <;> by_cases h2 : p.2 = q.2 <;> simp [h1, h2]
theorem minD_pairs : ∀ (ps : List (Int × Int)) (p0 : Int × Int), ∃ m, PySem.W.minD (pdP p0) (ps.map pdP) = pdP m ∧ LeastP (p0 :: ps) m
  | [], p0 => ⟨p0, rfl, List.mem_cons_self, fun q hq => .inr (by rw [List.mem_singleton.mp hq]; exact ⟨rfl, Int.le_refl _⟩)⟩
  | y :: ps, p0 => by
    by_cases c : y.1 < p0.1 ∨ (y.1 = p0.1 ∧ y.2 < p0.2)
    · obtain ⟨m, e, h1, h2⟩ := minD_pairs ps y
      refine ⟨m, ?_, List.mem_cons_of_mem _ h1, fun q hq => ?_⟩
      · show PySem.W.minD (if PySem.W.dataLt (pdP y) (pdP p0) = true then pdP y else pdP p0) (ps.map pdP) = _
        rw [dataLt_pp, if_pos (decide_eq_true c)]
        exact e
      · rcases List.mem_cons.mp hq with z | z
        · have := h2 y List.mem_cons_self
          rw [z]
          omega
        · exact h2 q z
    · obtain ⟨m, e, h1, h2⟩ := minD_pairs ps p0
      refine ⟨m, ?_, ?_, fun q hq => ?_⟩
      · show PySem.W.minD (if PySem.W.dataLt (pdP y) (pdP p0) = true then pdP y else pdP p0) (ps.map pdP) = _
        rw [dataLt_pp, if_neg fun z => c (of_decide_eq_true z)]
        exact e
      · rcases List.mem_cons.mp h1 with z | z
        · rw [z]; exact List.mem_cons_self
        · exact List.mem_cons_of_mem _ (List.mem_cons_of_mem _ z)
      · rcases List.mem_cons.mp hq with z | z
        · rw [z]; exact h2 p0 List.mem_cons_self
        · rcases List.mem_cons.mp z with z | z
          · have := h2 p0 List.mem_cons_self
            rw [z]
            omega
          · exact h2 q (List.mem_cons_of_mem _ z)
def rMinP (K : PySem.W.Frag) : List V → Hp → VK → Prop := fun vs H Q => ∃ (a : Addr) (xs : List V) (p : Int × Int) (ps : List (Int × Int)), vs = [V.ref a] ∧ SqL K H a xs ∧ DpAll K H xs ((p :: ps).map pdP) ∧
  ∀ (i : Nat) (v : V) (m : Int × Int), xs[i]? = some v → ((p :: ps).map pdP)[i]? = some (pdP m) → LeastP (p :: ps) m → Q v H
theorem alike_pairs (ps : List (Int × Int)) : PySem.W.AlikeAll (ps.map pdP) := by
  refine ⟨fun x hx y hy => ?_, fun x hx e => ?_⟩
  · obtain ⟨a, _, rfl⟩ := List.mem_map.mp hx
    obtain ⟨b, _, rfl⟩ := List.mem_map.mp hy
    simp [PySem.W.alike, PySem.W.alikeAll]
  · obtain ⟨a, _, rfl⟩ := List.mem_map.mp hx
    cases e
theorem depth_pairs : ∀ ps : List (Int × Int), PyData.depthAll (ps.map pdP) ≤ 2
  | [] => by simp [PyData.depthAll]
  | n :: ns => by
    have := depth_pairs ns
    simp only [List.map_cons, PyData.depthAll, PyData.depth]
    omega
theorem vals_at {xs : List V} {us : List Value} (h : Vals xs us) : ∀ {i : Nat} {u : Value}, us[i]? = some u → ∃ x, xs[i]? = some x ∧ RelV x u := by
  induction h with
  | nil => intro i u e; cases e
  | cons r _ ih =>
    intro i u e
    cases i with
    | zero => cases e; exact ⟨_, rfl, r⟩
    | succ i => exact ih e
theorem cr_minP {X : Cx} (hc : X.calm = true) (hu : X.A.units + 65 < cLine) : CallR X (.builtin "min") (rMinP X.K) := by
  intro pins s σ H vs us Q I r h
  obtain ⟨a, xs, p, ps, rfl, hs, hd, q⟩ := h
  obtain ⟨its, rv, hl, hz⟩ := I.list hs
  obtain rfl := Vals.ref1 r
  obtain ⟨as, hr⟩ := Dp.readsAll I _ xs its hd rv
  refine PySem.W.min_list_data (x := pdP p) (xs := ps.map pdP) (I.ok.hd hc) hl.isList hr (alike_pairs (p :: ps)) (by have := depth_pairs (p :: ps); rw [List.map_cons] at this; omega) fun i v h' tk bs hv hr2 hk => ?_
  have hv' : its[i]? = some v := by simpa using hv
  obtain ⟨x, hx, rx⟩ := vals_at rv hv'
  obtain ⟨m, em, lm⟩ := minD_pairs ps p
  rw [em] at hr2
  obtain ⟨bs2, r2, li, _, _⟩ := PySem.W.readsAll_at hr i v hv'
  have e := (PyProof.Rows.reads_det (fun b o e _ => e) (PySem.W.reads_keeps hk r2) hr2).1
  refine ⟨x, H, I.kept hk, rx, q i x m hx ?_ lm⟩
  rw [e, List.getD_eq_getElem?_getD, List.getElem?_eq_getElem li]
  rfl
section
variable [Fam] [Tabz]
def dMinP (f : DF) : DF := fun ρ n Q => f ρ n fun r n1 => ∃ ps : List (Int × Int), r.dat = some (.list (ps.map pdP)) ∧ ps ≠ [] ∧ ∀ m, LeastP ps m → Q (.d (pdP m)) n1
theorem rpa_at {M : Hp} : ∀ {xs : List V} {ds : List PyData}, RpA M xs ds → ∀ {i : Nat} {v : V} {d : PyData}, xs[i]? = some v → ds[i]? = some d → Rp M v d
  | _, _, .nil, i, v, d, h, _ => by cases h
  | _, _, .cons r t, 0, v, d, h, h2 => by cases h; cases h2; exact r
  | _, _, .cons r t, i + 1, v, d, h, h2 => rpa_at t (i := i) h h2
theorem pdMinP {X : Cx} {e : Expr} {f : DF} (h : PE X e (tCB (rMinP X.K) (tCons (tD f) tNil))) : PE X e (tD (dMinP f)) := h.imp fun σ H Q ⟨c, A, n, ρ, Q', E, hf, k⟩ => by
  refine ⟨c, A, n, ρ, _, E, hf, fun v r n1 H1 ⟨ps, ed, ne, hq⟩ f1 o1 => ?_⟩
  have rp := o1.dat E ed
  cases ps with
  | nil => exact absurd rfl ne
  | cons p ps =>
  generalize hds : (p :: ps).map pdP = ds at rp
  cases rp with
  | @lst l xs _ h1 h2 =>
    have hs2 : SqL X.K H1 l xs := SqL.of (msk_some h1).2
    have ha2 : DpAll X.K H1 xs ds := by
      have all : ∀ {vs : List V} {es : List PyData}, RpA (msk (c.av A) H1) vs es → DpAll X.K H1 vs es := fun {vs es} q => by
        induction q using RpA.rec (motive_1 := fun _ _ _ => True) with
        | nil => exact .nil
        | cons r t _ ih => exact .cons (up_msk r) ih
        | _ => trivial
      exact all h2
    refine ⟨l, xs, p, ps, rfl, hs2, hds ▸ ha2, fun i v m hx hm lm => ?_⟩
    rw [hds] at hm
    exact k v (.d (pdP m)) n1 H1 (hq m lm) f1 (rpa_at h2 hx hm)
end

/-! ### a def at one place alone: its body may use what that place says (no guard is held there) -/
def FnAt (P : Program) (w : World) (K : PySem.W.Frag) (mg : Str → Option Value) (base : Heap) (CX : CXT) (A : Around) (f : Addr) (fd : FuncData) (ps : List Str) (sp : Sp) : Prop :=
  ∀ (up : List Env) (s : Shared) (H : Hp) (args : Args) (us : List Value) (vs : List V) (Q : VK) (E : XK), Env0 P w K mg base A up s H → BindsTo s fd args (ps.zip us) → Vals vs us → sp vs H Q E →
    codeAny (model P w) A (.call (.ref f) args) (CR CX up P w H s Q E) s
theorem fn_at {CX : CXT} {P : Program} {w : World} {K : PySem.W.Frag} {mg : Str → Option Value} {base : Heap} {k : Nat} {A : Around} {f : Addr} {x q : Str} {pa : Arguments} {bo : List Stmt} {sc : Scope} {dV kV doc pm cdv ct oc : Value}
    {an od : Option Addr} {sl : Array (Option Value)} {N ps : List Str} {sp : Sp} (hr : Room (k + 1) A) (at_ : K.lookup f = some ⟨oc, od, .func (PySem.W.fnOf x q pa bo sc dV kV doc pm an cdv ct), sl⟩) (hc : PySem.W.codeIn K cdv q = true) (S : FnScope N ps sc)
    (many : ∀ vs H Q E, sp vs H Q E → vs.length = ps.length)
    (walks : ∀ (up : List Env) (s : Shared) (H : Hp) (vs : List V) (Q : VK) (E : XK), Room k (A.deeper (PyProof.Rows.envOfC q sc s.heap.objs.size f cdv)) → sp vs H Q E →
      ∃ t, PSs (cxOf CX P w K mg base N q sc f cdv A up s H E) bo t ∧ t { nx := fun _ H' => Q .non H', rt := Q } (start N vs) H) :
    FnAt P w K mg base CX A f (PySem.W.fnOf x q pa bo sc dV kV doc pm an cdv ct) ps sp := by
  intro up s H args us vs Q E env binds vals says
  have held : ∀ b o, base.get? b = some o → s.heap.get? b = some o := fun b o e => (env.bs b o e).1
  have KX := env.mod.kin.keeps held
  refine codeAny_call_function hr.depth (KX _ _ at_) rfl S.co S.gen rfl (PySem.W.codeRec_of KX hc) (binds _ _ _ _ ?_)
  refine wpAny_newFunctionEnv_cells S.kind (fun ⟨n, v⟩ hy => (S.par n (List.of_mem_zip hy).1).imp id fun z => ⟨z, PySem.W.cellsFrom_some _ _ _ (.inl z)⟩) fun e he s1 made => ?_
  subst he
  refine ⟨env.mod.nolimit.keeps fun b o z => made.toInCall.keep b o (held b o z), codeAny_func ?_⟩
  obtain ⟨t, body, reading⟩ := walks up s H vs Q E (hr.deeper _) says
  have I0 : Inv (cxOf CX P w K mg base N q sc f cdv A up s H E) [] (start N vs) H s1 := inv_start S hr.hd env (many _ _ _ _ says) vals made
  refine wpAny_mono (body.run [] s1 _ H _ I0 reading) (fun fl s' out => ?_) fun _ _ out => out
  have ends : ∀ {σ' : L2.St} {H' : Hp} {v : V} {u : Value}, Inv (cxOf CX P w K mg base N q sc f cdv A up s H E) [] σ' H' s' → RelV v u → Q v H' → CE up P w H s Q u s' := fun {_ H' v _} J rv z => ⟨v, H', J.os, J.bare, J.base, J.hok, rv, z⟩
  match fl, out with
  | .ret _, ⟨_, _, _, J, rv, z⟩ => exact ends J rv z
  | .next, ⟨_, _, J, z⟩ => exact ends (v := V.non) (u := Value.none) J rfl z
  | .brk, ⟨_, _, _, z⟩ => exact False.elim z
  | .cont, ⟨_, _, _, z⟩ => exact False.elim z
section
open PySem.Spec PyProof.Rows
/-- the abstract heap ahead of the call: the script alone, where it is none of the module's own objects -/
theorem first_heap {P : Program} {w : World} {K : PySem.W.Frag} {s : Shared} {a : Addr} {us : List Value} {nums : List Int} (kin : K.In s.heap) (there : s.heap.get? a = some { cls := .type "list", data := .seq us.toArray }) (nmb : IntsAre us nums) (fits : nums.length ≤ sizeLine) :
    ∃ H : Hp, SqL K H a (nums.map V.int) ∧ HOk P w H s.heap ∧ ∀ b u, H b = some u → b = a ∧ K.lookup a = none ∧ ∃ o xs, u = .frz o (.lst xs) := by
  have vals := vals_ints nmb
  cases own : K.lookup a with
  | some o =>
    have same := kin a o own
    rw [there] at same
    cases same
    refine ⟨fun _ => none, .inr ⟨_, us.toArray, _, own, rfl, rfl, rfl, ?_, by simpa using vals⟩, (fun _ _ z => by cases z), (fun _ _ z => by cases z)⟩
    rw [List.size_toArray, nmb.length]
    exact fits
  | none =>
    refine ⟨upd (fun _ => none) a (.frz { cls := .type "list", data := .seq us.toArray } (.lst (nums.map V.int))), .inl (.inr ⟨_, upd_same⟩), fun b u z => ?_, fun b u z => ?_⟩
    · by_cases e : b = a
      · subst e
        rw [upd_same] at z
        cases z
        exact ⟨there, by rw [List.length_map]; exact fits, us, _, vals, there⟩
      · rw [upd_ne e] at z
        cases z
    · by_cases e : b = a
      · subst e
        rw [upd_same] at z
        cases z
        exact ⟨rfl, rfl, _, _, rfl⟩
      · rw [upd_ne e] at z
        cases z
theorem end_at {P : Program} {w : World} {K : PySem.W.Frag} {mg mb : Str → Option Value} {fa a : Addr} {fd : FuncData} {x : Str} {sp : Sp} {CX : CXT} {s : Shared} {us : List Value} {nums : List Int} (kin : K.In s.heap) (gl : s.heap.Ns mainGlobals mg) (bl : s.heap.Ns builtinsNs mb)
    (bb : ∀ x : Str, x ≠ "__name__" → mb x = bootBuiltins x) (lim : s.heap.NoLimit) (ng : s.gens = #[]) (there : s.heap.get? a = some { cls := .type "list", data := .seq us.toArray }) (nmb : IntsAre us nums) (fits : nums.length ≤ sizeLine)
    (F : ∀ base : Heap, K.In base → base.Ns mainGlobals mg → FnAt P w K mg base CX callerA fa fd [x] sp) (one : ∀ (s : Shared) (u : Value), BindsTo s fd ⟨[u], []⟩ [(x, u)])
    (says : ∀ H : Hp, SqL K H a (nums.map V.int) → sp [.ref a] H (fun v _ => v = .bl true) fun _ _ _ => False) (calm : ∀ H e s', CX [] H s (fun _ _ _ => False) e s' → False) :
    codeAny (model P w) callerA (.call (.ref fa) ⟨[.ref a], []⟩) (fun r s' => r = .ok (.ret (.bool true)) ∧ OldK s.heap s'.heap ∧ s'.os = s.os ∧ AllBare s'.gens) s := by
  obtain ⟨H, seq, hok, alone⟩ := first_heap (P := P) (w := w) kin there nmb fits
  have untouched : ∀ {b : Addr} {o : Obj}, s.heap.get? b = some o → (b = a → K.lookup a = none → False) → (hidT s.heap H).get? b = some o := fun {b o} e no => hidT_get e (by
    cases q : H b with
    | none => rfl
    | some u => exact (no (alone b u q).1 (alone b u q).2.1).elim)
  have dicts : ∀ {b : Addr} {m : Str → Option Value}, s.heap.Ns b m → (hidT s.heap H).Ns b m := fun {b m} ⟨o, es, ep, e, d, r⟩ => ⟨o, es, ep, untouched e (fun z _ => by
    rw [z, there] at e
    cases e
    cases d), d, r⟩
  have kinB : K.In (hidT s.heap H) := fun b o e => untouched (kin b o e) fun z no => by
    rw [z, no] at e
    cases e
  obtain ⟨mc, m1, m2⟩ := lim
  have env : Env0 P w K mg (hidT s.heap H) callerA [] s H := ⟨rfl, ⟨kinB, dicts gl, ⟨mb, dicts bl, bb⟩, mc, dicts m1, m2⟩, fun _ _ => of_hidT, Nat.le_of_eq (hidT_size _ _), trivial, fun b hb => (nomatch hb), hok, .of_eq ng⟩
  refine codeAny_mono (F _ kinB (dicts gl) [] s H ⟨[.ref a], []⟩ [.ref a] [.ref a] _ _ env (one s (.ref a)) (.cons rfl .nil) (says H seq)) fun r s' out => ?_
  match r, out with
  | .error e, out => exact (calm H e s' out).elim
  | .ok .next, out => exact False.elim out
  | .ok .brk, out => exact False.elim out
  | .ok .cont, out => exact False.elim out
  | .ok (.ret u), ⟨v, H', os, bare, un, hok', rv, q⟩ =>
    obtain rfl : v = .bl true := q
    obtain rfl : u = Value.bool true := rv
    refine ⟨rfl, OldK.of_keep fun b o e => ?_, os, bare⟩
    cases z : H b with
    | none => exact un.keep b o e z (fun y => (nomatch (show b ∈ ([] : List Addr) from y))) (fun y => (nomatch (show b ∈ ([] : List Addr) from y)))
    | some u =>
      obtain ⟨_, _, fo, xs, rfl⟩ := alone b u z
      have b1 := (hok b _ z).1
      rw [e] at b1
      cases b1
      exact (hok' b _ (un.frzs b _ _ z)).1
end
theorem Fun.at_ {P : Program} {w : World} {K : PySem.W.Frag} {mg : Str → Option Value} {base : Heap} {A : Around} {x qual : Str} {st : Stmt} {f : Addr} {fd : FuncData} {N ps : List Str} {k : Nat} {sp : Sp} (F : Fun K x qual st f fd) (hr : Room (k + 1) A) (S : FnScope N ps (defScope st)) (many : ∀ vs H Q E, sp vs H Q E → vs.length = ps.length)
    (walks : ∀ (cdv : Value) (up : List Env) (s : Shared) (H : Hp) (vs : List V) (Q : VK) (E : XK), Room k (A.deeper (PyProof.Rows.envOfC qual (defScope st) s.heap.objs.size f cdv)) → sp vs H Q E →
      ∃ t, PSs (cxOf CX0 P w K mg base N qual (defScope st) f cdv A up s H E).nox (defBody st) t ∧ t { nx := fun _ H' => Q .non H', rt := Q } (start N vs) H) : FnAt P w K mg base CX0 A f fd ps sp := by
  obtain ⟨oc, od, kV, doc, pm, an, cdv, ct, osl, rfl, lk, hcd⟩ := F.ex
  refine fn_at hr lk hcd S many fun up s H vs Q E room says => ?_
  obtain ⟨t, body, reading⟩ := walks cdv up s H vs Q E room says
  exact ⟨t, body.nox, reading⟩

section
open PySem.Spec PyProof.Rows
/-- repr(x) of a list or a tuple, data all the way down, where no guard is held -/
def rReprD (K : PySem.W.Frag) : List V → Hp → VK → Prop := fun xs H Q => ∃ (a : Addr) (d : PyData), xs = [.ref a] ∧ Dp K H (.ref a) d ∧ d.showable = true ∧ d.hasDict = false ∧ d.depth ≤ 60 ∧ d.shown.length ≤ sizeLine ∧ Q (.str d.shown) H
theorem call_reprD {X : Cx} (hg : X.A.guards = some []) (hu : X.A.units + 64 < cLine) : CallR X (.builtin "repr") (rReprD X.K) := by
  intro pins s σ H xs us Q I r h
  obtain ⟨a, d, rfl, hd, hs, hn, hdp, hz, q⟩ := h
  rw [Vals.ref1 r]
  obtain ⟨as, rd⟩ := Dp.reads I d (.ref a) (.ref a) hd rfl
  exact repr_of_reads' rd hs (fun e => by rw [hn] at e; cases e) hg (by omega) (fun _ _ e => e) (fun h' u tk kp => ⟨.str d.shown, H, I.kept (t' := tk) kp, ⟨u, rfl⟩, q⟩) hz
end

section
variable [Fam] [Tabz]
/-- repr(x), x a tuple (where no guard is held) -/
def ReprOk (d : PyData) : Prop := d.showable = true ∧ d.hasDict = false ∧ d.depth ≤ 60 ∧ d.shown.length ≤ sizeLine
def dReprT (f : DF) : DF := fun ρ n Q => f ρ n fun r n1 => ∃ xs, r = .d (.tuple xs) ∧ ReprOk (.tuple xs) ∧ Q (.d (.str (PyData.tuple xs).shown)) n1
theorem pdReprT {X : Cx} {e : Expr} {f : DF} (h : PE X e (tCB (rReprD X.K) (tCons (tD f) tNil))) : PE X e (tD (dReprT f)) := h.imp fun σ H Q ⟨c, A, n, ρ, Q', E, hf, k⟩ => by
  refine ⟨c, A, n, ρ, _, E, hf, fun v r n1 H1 ⟨xs, ed, ⟨h1, h2, h3, h4⟩, hq⟩ f1 o1 => ?_⟩
  subst ed
  have rp : Rp (msk (c.av A) H1) v (.tuple xs) := o1
  have dp := up_msk (K := X.K) rp
  cases rp with
  | @tup a vs _ g1 g2 => exact ⟨a, _, rfl, dp, h1, h2, h3, h4, k (.str (PyData.tuple xs).shown) _ n1 H1 hq f1 (Rp.str _)⟩
theorem int_short {i : Int} (h : i.natAbs < 2 ^ 256) : PyData.intsShort 300 (.int i) = true ∧ PyData.showable (.int i) = true := by
  have lg : i.natAbs.log2 < 256 := by
    by_cases z : i.natAbs = 0
    · rw [z]
      decide
    · exact (Nat.log2_lt z).mpr h
  refine ⟨?_, by simp only [PyData.showable]; exact decide_eq_true (by omega)⟩
  simp only [PyData.intsShort]
  refine decide_eq_true ?_
  have q := PySem.int_text_length_le (k := 256) (by decide) lg
  show (Str.ofString (toString i)).length ≤ 300
  rw [PySem.ofString_length]
  omega
end

section
variable [Fam] [Tabz]
/-- repr(x), x a list (where no guard is held) -/
def dReprL (f : DF) : DF := fun ρ n Q => f ρ n fun r n1 => ∃ xs, r.dat = some (.list xs) ∧ ReprOk (.list xs) ∧ Q (.d (.str (PyData.list xs).shown)) n1
theorem pdReprL {X : Cx} {e : Expr} {f : DF} (h : PE X e (tCB (rReprD X.K) (tCons (tD f) tNil))) : PE X e (tD (dReprL f)) := h.imp fun σ H Q ⟨c, A, n, ρ, Q', E, hf, k⟩ => by
  refine ⟨c, A, n, ρ, _, E, hf, fun v r n1 H1 ⟨xs, ed, ⟨h1, h2, h3, h4⟩, hq⟩ f1 o1 => ?_⟩
  have rp : Rp (msk (c.av A) H1) v (.list xs) := o1.dat E ed
  have dp := up_msk (K := X.K) rp
  cases rp with
  | @lst a vs _ g1 g2 => exact ⟨a, _, rfl, dp, h1, h2, h3, h4, k (.str (PyData.list xs).shown) _ n1 H1 hq f1 (Rp.str _)⟩
/-- repr(i), i an int -/
def dReprI (f : DF) : DF := fun ρ n Q => f ρ n fun r n1 => ∃ i : Int, r = .d (.int i) ∧ i.natAbs.log2 < 1920 ∧ Q (.d (.str (toString i))) n1
theorem pdReprI {X : Cx} {e : Expr} {f : DF} (h : PE X e (tCB (fun xs H Q => ∃ i : Int, xs = [.int i] ∧ i.natAbs.log2 < 1920 ∧ Q (.str (toString i)) H) (tCons (tD f) tNil))) : PE X e (tD (dReprI f)) := h.imp fun σ H Q ⟨c, A, n, ρ, Q', E, hf, k⟩ => by
  refine ⟨c, A, n, ρ, _, E, hf, fun v r n1 H1 ⟨i, ed, h1, hq⟩ f1 o1 => ?_⟩
  subst ed
  have rp : Rp (msk (c.av A) H1) v (.int i) := o1
  cases rp
  exact ⟨i, rfl, h1, k (.str (toString i)) _ n1 H1 hq f1 (Rp.str _)⟩
/-- what lists of short tuples of ints show -/
theorem repr_rows {ds : List PyData} {B : Nat} (hB : B ≤ 2000) (h : ∀ d ∈ ds, d.showable = true ∧ d.hasDict = false ∧ d.depth ≤ 3 ∧ d.canLay0 = true ∧ d.intsShort 300 = true ∧ d.weight ≤ B) (hl : ds.length ≤ 20) : ReprOk (.list ds) := by
  have all : ∀ l : List PyData, (∀ d ∈ l, d.showable = true ∧ d.hasDict = false ∧ d.depth ≤ 3 ∧ d.canLay0 = true ∧ d.intsShort 300 = true ∧ d.weight ≤ B) → PyData.showableAll l = true ∧ PyData.hasDictAll l = false ∧ PyData.depthAll l ≤ 3 ∧ PyData.canLayAll0 l = true ∧ PyData.intsShortAll 300 l = true ∧ PyData.weightAll l ≤ 1 + (B + 1) * l.length := fun l => by
    induction l with
    | nil => exact fun _ => ⟨rfl, rfl, by simp [PyData.depthAll], rfl, rfl, by simp [PyData.weightAll]⟩
    | cons d l ih =>
      intro q
      obtain ⟨a1, a2, a3, a4, a5, a6⟩ := q d List.mem_cons_self
      obtain ⟨b1, b2, b3, b4, b5, b6⟩ := ih fun x hx => q x (List.mem_cons_of_mem _ hx)
      refine ⟨by simp [PyData.showableAll, a1, b1], by simp [PyData.hasDictAll, a2, b2], by simp only [PyData.depthAll]; omega, by simp [PyData.canLayAll0, a4, b4], by simp [PyData.intsShortAll, a5, b5], ?_⟩
      simp only [PyData.weightAll, List.length_cons]
      rw [Nat.mul_add]
      omega
  obtain ⟨b1, b2, b3, b4, b5, b6⟩ := all ds h
  have s := PyData.shown_le 300 (by decide) (.list ds) (PyData.leavesShort_of_canLay0 300 _ (by simp only [PyData.canLay0]; exact b4) (by simp only [PyData.intsShort]; exact b5))
  have hm : (B + 1) * ds.length ≤ 2001 * 20 := Nat.mul_le_mul (by omega) hl
  have wt : (PyData.list ds).weight ≤ 40100 := by
    simp only [PyData.weight]
    omega
  refine ⟨by simp only [PyData.showable]; exact b1, by simp only [PyData.hasDict]; exact b2, by simp only [PyData.depth]; omega, Nat.le_trans s ?_⟩
  have : (16777216 : Nat) = sizeLine := sizeLine_eq.symm
  omega
end

structure Txt (mg : Str → Option Value) : Prop where
  b_len : mg "len" = none
  b_max : mg "max" = none
  b_min : mg "min" = none
  b_range : mg "range" = none
  b_bool : mg "bool" = none
  b_isinstance : mg "isinstance" = none
  b_int : mg "int" = none
  b_repr : mg "repr" = none
  b_all : mg "all" = none
  b_list : mg "list" = none
  b_tuple : mg "tuple" = none
  b_zip : mg "zip" = none
  b_sorted : mg "sorted" = none
  b_sum : mg "sum" = none
  b_abs : mg "abs" = none
  b_enumerate : mg "enumerate" = none
  b_set : mg "set" = none
  b_dict : mg "dict" = none
  b_reversed : mg "reversed" = none
  mg_BUY : ∃ t, mg "BUY" = some (.str "buy" t)
  mg_SELL : ∃ t, mg "SELL" = some (.str "sell" t)
section
variable [Fam] [Tabz] {P : Program} {w : World} {K : PySem.W.Frag} {mg : Str → Option Value} {base : Heap}
local macro_rules | `(tactic| walk_at "d") => `(tactic| first | refine Or.inl ⟨_, rfl, ?_⟩ | refine ⟨Nat.le_of_ble_eq_true rfl, ?_⟩ | refine ⟨_, rfl, ?_⟩)
/-! ### the plain rule: data -/
def datP : Option Int → PyData
  | none => .none
  | some i => .int i
structure Row where
  num : Int
  who : Str
  side : Str
  price : Int
  part : Option Int
  left : Int
  seen : Int
  rank : Int
def Row.dat (r : Row) : PyData := .tuple [.int r.num, .str r.who, .str r.side, .int r.price, datP r.part, .int r.left, .int r.seen, .int r.rank]
structure Com where
  num : Int
  who : Str
  side : Str
  price : Option Int
  left : Int
  guard : Str
def Com.dat (c : Com) : PyData := .tuple [.int c.num, .str c.who, .str c.side, datP c.price, .int c.left, .str c.guard]
inductive Evt where
  | trade (b s p a : Int) | shown (m n : Int) | off (m a : Int) | less (r c a : Int)
def Evt.dat : Evt → PyData
  | .trade b s p a => .tuple [.str "trade", .int b, .int s, .int p, .int a]
  | .shown m n => .tuple [.str "shown", .int m, .int n]
  | .off m a => .tuple [.str "off", .int m, .int a, .str "guard"]
  | .less r c a => .tuple [.str "less", .int r, .int c, .int a]
def dRows (rs : List Row) : PyData := .list (rs.map Row.dat)
def dEvts (es : List Evt) : PyData := .list (es.map Evt.dat)
theorem plain1 {a : PyData} : plainR [.d a] ∧ [DV.d a].length = 1 := plainOf_R (ds := [a]) rfl
theorem plain2 {a b : PyData} : plainR [.d a, .d b] ∧ [DV.d a, .d b].length = 2 := plainOf_R (ds := [a, b]) rfl
theorem plain3 {a b c : PyData} : plainR [.d a, .d b, .d c] ∧ [DV.d a, .d b, .d c].length = 3 := plainOf_R (ds := [a, b, c]) rfl
theorem plain4 {a b c d : PyData} : plainR [.d a, .d b, .d c, .d d] ∧ [DV.d a, .d b, .d c, .d d].length = 4 := plainOf_R (ds := [a, b, c, d]) rfl

local macro_rules | `(tactic| walk_at "d") => `(tactic| first | refine Or.inl ⟨_, rfl, ?_⟩ | refine Or.inr ⟨rfl, ?_⟩ | refine ⟨Nat.le_of_ble_eq_true rfl, ?_⟩ | refine ⟨⟨_, rfl⟩, ?_⟩ | refine ⟨_, rfl, ?_⟩ | refine ⟨_, _, rfl, ?_⟩ | refine ⟨_, _, _, rfl, ?_⟩ | refine ⟨_, _, _, _, rfl, ?_⟩)
/-! ### the table -/
def atP (rows : List Row) (s : Str) (p : Int) : Int := ((rows.filter fun r => decide (r.side = s) && decide (r.price = p)).map Row.left).sum
/-- what a side has left at each price, as a dict -/
def LeftOk (rows : List Row) (s : Str) (kvs : List (Key × PyData)) : Prop := kvs.length ≤ rows.length ∧ ∀ p : Int, (valD kvs (.inl p)).getD (.int 0) = .int (atP rows s p)
def mLeft : DM := fun rs n Q => ∃ (rows : List Row) (s : Str), rs = [.d (dRows rows), .d (.str s)] ∧ Cnd (rows.length ≤ 50000) ∧ ∀ kvs, LeftOk rows s kvs → Q (.dic kvs) n
theorem L_left_by_price : ∀ rs n Q, mLeft rs n Q → plainR rs ∧ rs.length = 2 := by
  rintro rs n Q ⟨r, s, rfl, h⟩
  exact plain2
theorem atP_snoc (rows : List Row) (r : Row) (s : Str) (p : Int) : atP (rows ++ [r]) s p = if r.side = s ∧ r.price = p then atP rows s p + r.left else atP rows s p := by
  unfold atP
  rw [List.filter_append, List.map_append, List.sum_append]
  by_cases q : r.side = s ∧ r.price = p
  · rw [if_pos q]
    have e : List.filter (fun r => decide (r.side = s) && decide (r.price = p)) [r] = [r] := by simp [q.1, q.2]
    rw [e]
    simp
  · rw [if_neg q]
    have e : List.filter (fun r => decide (r.side = s) && decide (r.price = p)) [r] = [] := by
      rw [List.filter_cons]
      rw [if_neg]
      · rfl
      · simp only [Bool.and_eq_true, decide_eq_true_eq]
        exact q
    rw [e]
    simp
theorem left_add {rows : List Row} {s : Str} {kvs : List (Key × PyData)} (h : LeftOk rows s kvs) {r : Row} (hs : r.side = s) : LeftOk (rows ++ [r]) s (putKD kvs (.inl r.price) (.int (atP rows s r.price + r.left))) := by
  refine ⟨Nat.le_trans (putKD_len _ _ _) (by rw [List.length_append]; have := h.1; show _ ≤ _ + 1; omega), fun p => ?_⟩
  rw [valD_put, atP_snoc]
  by_cases q : p = r.price
  · subst q
    rw [if_pos rfl, if_pos ⟨hs, rfl⟩]
    rfl
  · rw [if_neg (fun z => q (Sum.inl.inj z)), if_neg (fun z => q z.2.symm)]
    exact h.2 p
theorem left_skip {rows : List Row} {s : Str} {kvs : List (Key × PyData)} (h : LeftOk rows s kvs) {r : Row} (hs : ¬ r.side = s) : LeftOk (rows ++ [r]) s kvs := by
  refine ⟨by rw [List.length_append]; have := h.1; omega, fun p => ?_⟩
  rw [atP_snoc, if_neg (fun z => hs z.1)]
  exact h.2 p
abbrev s_left_by_price : Stmt := topS 4
theorem sc_left_by_price : FnScope ["rows", "side", "told", "row"] ["rows", "side"] (defScope s_left_by_price) := ⟨rfl, rfl, rfl, by decide +kernel, rfl, by decide +kernel, by decide +kernel⟩
theorem ok_left {f : Addr} {fd : FuncData} (F : Fun K "left_by_price" "left_by_price" s_left_by_price f fd) (T : Txt mg) : FnOk P w K mg base CX0 1 f fd ["rows", "side"] (spD mLeft) := by
  apply okD F sc_left_by_price L_left_by_price
  case body =>
    intro cdv A outer s H E hr
    exact (psCons (psSet (i := 2) sc_left_by_price.nd rfl (Or.inl rfl) (pdDNew pe_dnewK))
          (psCons (psFor PassesOwn.never rfl (piList (pdV (pv 0))) (pgN (pg_name (i := 3) sc_left_by_price.nd rfl (Or.inl rfl)))
           (psOne (psIf (ptCmp r2Eq op_eq (pdIx r2IxT ix_tup (pdV (pv 3)) (pdC pe_int) (fun _ _ => rfl)) (pdV (pv 1)) (nomark _)) (psOne (psDPut (i := 2) (hu_of hr) (pv 2) (pdIx r2IxT ix_tup (pdV (pv 3)) (pdC pe_int) (fun _ _ => rfl)) (pdOp r2Add op_add (pdDGet2 (hu_of hr) (pv 2) (pdIx r2IxT ix_tup (pdV (pv 3)) (pdC pe_int) (fun _ _ => rfl)) (pdC pe_int) ⟨rfl, rfl, rfl, rfl⟩) (pdIx r2IxT ix_tup (pdV (pv 3)) (pdC pe_int) (fun _ _ => rfl))))) psNil)))
          (psOne (psRetOwn (pv 2)))))
  case data =>
    rintro rs n Q ⟨rows, s, rfl, cc, h⟩
    repeat walk_at "d"
    refine ⟨fun i ρ m => m = n ∧ ∃ (kvs : List (Key × PyData)) (j : DV), ρ = [.d (dRows rows), .d (.str s), .dic kvs, j] ∧ LeftOk (rows.take i) s kvs, ⟨rfl, [], .un, rfl, ⟨Nat.zero_le _, fun p => rfl⟩⟩, ?_, ?_⟩
    · rintro i d ρ m hd ⟨rfl, kvs, j, rfl, hL⟩
      rw [List.getElem?_map] at hd
      cases hr : rows[i]? with
      | none => rw [hr] at hd; cases hd
      | some r =>
      rw [hr] at hd
      cases hd
      have et : rows.take (i + 1) = rows.take i ++ [r] := by rw [List.take_succ, hr]; rfl
      have hcc := cc.get
      have hlen := hL.1
      rw [List.length_take] at hlen
      repeat walk_at "d"
      refine ite2 (fun q => ?_) (fun q => ?_)
      · have q : r.side = s := of_decide_eq_true q
        repeat walk_at "d"
        refine ⟨.inl r.price, rfl, ?_⟩
        repeat walk_at "d"
        refine ⟨_, by rw [hL.2 r.price]; rfl, ?_⟩
        repeat walk_at "d"
        refine ⟨.inl r.price, rfl, ?_⟩
        repeat walk_at "d"
        refine ⟨by omega, rfl, _, _, rfl, ?_⟩
        rw [et]
        exact left_add hL q
      · have q : ¬ r.side = s := fun z => q (decide_eq_true z)
        exact ⟨rfl, kvs, _, rfl, by rw [et]; exact left_skip hL q⟩
    · rintro ρ m ⟨rfl, kvs, j, rfl, hL⟩
      rw [List.length_map, List.take_length] at hL
      exact ⟨_, rfl, rfl, h kvs hL⟩
def demM (rows : List Row) (p : Int) : Int := ((rows.filter fun r => decide (r.side = ("buy" : Str)) && decide (p ≤ r.price)).map Row.left).sum
def supM (rows : List Row) (p : Int) : Int := ((rows.filter fun r => decide (r.side = ("sell" : Str)) && decide (r.price ≤ p)).map Row.left).sum
def stepD (rows : List Row) (p : Int) : PyData := .tuple [.int p, .int (demM rows p), .int (supM rows p)]
/-- the prices of the rows, rising, each once -/
def PricesOk (rows : List Row) (out : List Int) : Prop := out.Pairwise (· < ·) ∧ ∀ k, k ∈ out ↔ k ∈ rows.map Row.price
def mTable : DM := fun rs n Q => ∃ (rows : List Row), rs = [.d (dRows rows)] ∧ Cnd (rows.length < 64) ∧ ∀ out, PricesOk rows out → Q (.own (out.map (stepD rows))) n
theorem L_table : ∀ rs n Q, mTable rs n Q → plainR rs ∧ rs.length = 1 := by
  rintro rs n Q ⟨r, rfl, h⟩
  exact plain1
/-! the sums of a table -/
def sumM (q : Row → Bool) (rows : List Row) : Int := ((rows.filter q).map Row.left).sum
theorem sumM_cons (q : Row → Bool) (r : Row) (rows : List Row) : sumM q (r :: rows) = (if q r = true then r.left else 0) + sumM q rows := by
  unfold sumM
  rw [List.filter_cons]
  split
  · simp
  · simp
theorem sumM_split (q z : Row → Bool) (rows : List Row) : sumM (fun r => q r && z r) rows + sumM (fun r => q r && !z r) rows = sumM q rows := by
  induction rows with
  | nil => rfl
  | cons r rows ih =>
    rw [sumM_cons, sumM_cons, sumM_cons]
    cases q r <;> cases z r <;> simp <;> omega
theorem sumM_congr {q z : Row → Bool} {rows : List Row} (h : ∀ r ∈ rows, q r = z r) : sumM q rows = sumM z rows := by
  unfold sumM
  rw [List.filter_congr h]
theorem at_sum (rows : List Row) (s : Str) : ∀ ps : List Int, ps.Pairwise (· < ·) → (ps.map (atP rows s)).sum = sumM (fun r => decide (r.side = s) && decide (r.price ∈ ps)) rows
  | [], _ => by
    have e : sumM (fun r => decide (r.side = s) && decide (r.price ∈ ([] : List Int))) rows = sumM (fun _ => false) rows := sumM_congr fun r _ => by simp
    rw [e]
    unfold sumM
    rw [List.filter_eq_nil_iff.mpr (by simp)]
    rfl
  | p :: ps, h => by
    obtain ⟨h1, h2⟩ := List.pairwise_cons.mp h
    simp only [List.map_cons, List.sum_cons]
    rw [at_sum rows s ps h2, ← sumM_split (fun r => decide (r.side = s) && decide (r.price ∈ p :: ps)) (fun r => decide (r.price = p)) rows]
    have e1 : sumM (fun r => (decide (r.side = s) && decide (r.price ∈ p :: ps)) && decide (r.price = p)) rows = atP rows s p := by
      show _ = sumM (fun r => decide (r.side = s) && decide (r.price = p)) rows
      refine sumM_congr fun r _ => ?_
      by_cases q : r.price = p
      · simp [q]
      · simp [q]
    have e2 : sumM (fun r => (decide (r.side = s) && decide (r.price ∈ p :: ps)) && !decide (r.price = p)) rows = sumM (fun r => decide (r.side = s) && decide (r.price ∈ ps)) rows := by
      refine sumM_congr fun r _ => ?_
      by_cases q : r.price = p
      · have : ¬ p ∈ ps := fun z => by
          have := h1 p z
          omega
        simp [q, this]
      · simp [q]
    rw [e1, e2]
theorem take_low {out : List Int} (so : out.Pairwise (· < ·)) {i : Nat} {p k : Int} (hp : out[i]? = some p) (hk : k ∈ out) : (k ∈ out.take i ↔ k < p) ∧ (k ∈ out.take (i + 1) ↔ k ≤ p) := by
  obtain ⟨hi, ei⟩ := List.getElem?_eq_some_iff.mp hp
  obtain ⟨j, hj, ej⟩ := List.mem_iff_getElem.mp hk
  have lt : ∀ a b (ha : a < out.length) (hb : b < out.length), a < b → out[a] < out[b] := fun a b ha hb hab => List.pairwise_iff_getElem.mp so a b ha hb hab
  have key : ∀ m, k ∈ out.take m ↔ j < m := fun m => by
    constructor
    · intro hm
      obtain ⟨x, hx, ex⟩ := List.mem_iff_getElem.mp hm
      rw [List.getElem_take] at ex
      rw [List.length_take] at hx
      have hx2 : x < out.length := by omega
      have : x = j := by
        apply Classical.byContradiction
        intro ne
        rcases Nat.lt_or_gt_of_ne ne with q | q
        · have := lt x j hx2 hj q
          omega
        · have := lt j x hj hx2 q
          omega
      omega
    · intro hm
      refine List.mem_iff_getElem.mpr ⟨j, by rw [List.length_take]; omega, ?_⟩
      rw [List.getElem_take]
      exact ej
  rw [key, key]
  have c1 : j < i → k < p := fun q => by
    have := lt j i hj hi q
    omega
  have c2 : i < j → p < k := fun q => by
    have := lt i j hi hj q
    omega
  have c3 : j = i → k = p := fun q => by
    subst q
    omega
  refine ⟨⟨c1, fun q => ?_⟩, ⟨fun q => ?_, fun q => ?_⟩⟩
  · apply Classical.byContradiction
    intro z
    rcases Nat.lt_or_eq_of_le (Nat.le_of_not_lt z) with y | y
    · have := c2 y; omega
    · have := c3 y.symm; omega
  · rcases Nat.lt_or_eq_of_le (Nat.le_of_lt_succ q) with y | y
    · have := c1 y; omega
    · have := c3 y; omega
  · apply Classical.byContradiction
    intro z
    have := c2 (by omega)
    omega
theorem sup_take {rows : List Row} {out : List Int} (h : PricesOk rows out) {i : Nat} {p : Int} (hp : out[i]? = some p) : ((out.take (i + 1)).map (atP rows "sell")).sum = supM rows p := by
  rw [at_sum rows "sell" _ (h.1.sublist (List.take_sublist _ _))]
  show _ = sumM _ rows
  refine sumM_congr fun r hr => ?_
  have hm : r.price ∈ out := (h.2 _).mpr (List.mem_map.mpr ⟨r, hr, rfl⟩)
  congr 1
  exact decide_eq_decide.mpr (take_low h.1 hp hm).2
theorem dem_take {rows : List Row} {out : List Int} (h : PricesOk rows out) {i : Nat} {p : Int} (hp : out[i]? = some p) : sumM (fun r => decide (r.side = ("buy" : Str))) rows - ((out.take i).map (atP rows "buy")).sum = demM rows p := by
  rw [at_sum rows "buy" _ (h.1.sublist (List.take_sublist _ _)), ← sumM_split (fun r => decide (r.side = ("buy" : Str))) (fun r => decide (r.price ∈ out.take i)) rows]
  have e : sumM (fun r => decide (r.side = ("buy" : Str)) && !decide (r.price ∈ out.take i)) rows = demM rows p := by
    show _ = sumM _ rows
    refine sumM_congr fun r hr => ?_
    have hm : r.price ∈ out := (h.2 _).mpr (List.mem_map.mpr ⟨r, hr, rfl⟩)
    have q := (take_low h.1 hp hm).1
    congr 1
    by_cases z : p ≤ r.price
    · rw [decide_eq_true z, decide_eq_false (fun y => by have := q.mp y; omega)]
      rfl
    · rw [decide_eq_false z, decide_eq_true (q.mpr (by omega))]
      rfl
  rw [e]
  omega
theorem intsOf_mapL : ∀ ns : List Int, intsOf (ns.map PyData.int) = some ns
  | [] => rfl
  | n :: ns => by
    show (intsOf (ns.map PyData.int)).map (n :: ·) = _
    rw [intsOf_mapL ns]
    rfl
theorem few_inc {xs : List Int} : ∀ {ys : List Int}, xs.Pairwise (· < ·) → (∀ x ∈ xs, x ∈ ys) → xs.length ≤ ys.length := by
  induction xs with
  | nil => intro ys _ _; exact Nat.zero_le _
  | cons x xs ih =>
    intro ys s h
    obtain ⟨s1, s2⟩ := List.pairwise_cons.mp s
    have hx := h x List.mem_cons_self
    have := ih (ys := ys.erase x) s2 fun y hy => by
      have ne : y ≠ x := fun e => by
        have := s1 y hy
        omega
      exact (List.mem_erase_of_ne ne).mpr (h y (List.mem_cons_of_mem _ hy))
    rw [List.length_erase_of_mem hx] at this
    have := List.length_pos_of_mem hx
    show xs.length + 1 ≤ ys.length
    omega
theorem PricesOk.few {rows : List Row} {out : List Int} (h : PricesOk rows out) : out.length ≤ rows.length := by
  have := few_inc h.1 fun x hx => (h.2 x).mp hx
  rwa [List.length_map] at this
abbrev s_table : Stmt := topS 3
theorem sc_table : FnScope ["rows", "buys", "sells", "demand", "supply", "steps", "price", "row"] ["rows"] (defScope s_table) := ⟨rfl, rfl, rfl, by decide +kernel, rfl, by decide +kernel, by decide +kernel⟩
theorem ok_table {f : Addr} {fd : FuncData} (F : Fun K "table" "table" s_table f fd) (T : Txt mg) (c_left_by_price : Cal P w K mg base 1 "left_by_price" ["rows", "side"] (spD mLeft)) : FnOk P w K mg base CX0 2 f fd ["rows"] (spD mTable) := by
  apply okD F sc_table L_table
  case body =>
    intro cdv A outer s H E hr
    obtain ⟨_, mG_BUY⟩ := T.mg_BUY
    obtain ⟨_, mG_SELL⟩ := T.mg_SELL
    obtain ⟨f_left_by_price, fd_left_by_price, G_left_by_price, m_left_by_price, k_left_by_price, b_left_by_price⟩ := c_left_by_price
    exact (psCons (psSet (i := 1) sc_table.nd rfl (Or.inl rfl) (pdCall (fun _ _ _ q => (L_left_by_price _ _ _ q).1) G_left_by_price (hr.mono (by decide)) (by rfl) m_left_by_price k_left_by_price b_left_by_price pass0 (paCons (pdV (pv 0)) (paCons (pdC (pe_glob (v := .str "buy") (by rfl) mG_BUY ⟨_, rfl⟩)) paNil))))
          (psCons (psSet (i := 2) sc_table.nd rfl (Or.inl rfl) (pdCall (fun _ _ _ q => (L_left_by_price _ _ _ q).1) G_left_by_price (hr.mono (by decide)) (by rfl) m_left_by_price k_left_by_price b_left_by_price pass0 (paCons (pdV (pv 0)) (paCons (pdC (pe_glob (v := .str "sell") (by rfl) mG_SELL ⟨_, rfl⟩)) paNil))))
          (psCons (psSet (i := 3) sc_table.nd rfl (Or.inl rfl) (pdB rsSum (cr_sum rfl) (by rfl) T.b_sum (by decide +kernel) (paCons ((pe_lc (own := [("row", 7)]) rfl sc_table.nd (piList (pdV (pv 0))) (blkOk_by (N := ["rows", "buys", "sells", "demand", "supply", "steps", "price", "row"]) (sc := defScope s_table) (by decide +kernel)) (fun _ _ _ _ _ => (pgN (pg_name (i := 7) sc_table.nd rfl (Or.inl rfl)))) (fun _ _ _ _ _ => (pts_one (ptCmp r2Eq op_eq (pdIx r2IxT ix_tup (pdV (pv 7)) (pdC pe_int) (fun _ _ => rfl)) (pdC (pe_glob (v := .str "buy") (by rfl) mG_BUY ⟨_, rfl⟩)) (nomark _)))) (fun _ _ _ _ _ => (pdIx r2IxT ix_tup (pdV (pv 7)) (pdC pe_int) (fun _ _ => rfl)))).imp (lc_le (by decide) (fun _ _ _ q => q))) paNil)))
          (psCons (psSet (i := 4) sc_table.nd rfl (Or.inl rfl) (pdC pe_int))
          (psCons (psSet (i := 5) sc_table.nd rfl (Or.inl rfl) (pdLst paNil))
          (psCons (psFor PassesOwn.never rfl (piList (pdSortSetRows (pe_callB (cr_sortedSet rfl) (by rfl) T.b_sorted (by decide +kernel) (pa_cons (pe_setRows rfl (pdV (pv 0)) (by rfl) (by decide +kernel) rfl (by decide +kernel) (by decide +kernel) (fun _ => rfl)) pa_nil)))) (pgN (pg_name (i := 6) sc_table.nd rfl (Or.inl rfl)))
           (psCons (psAug (i := 4) sc_table.nd rfl (Or.inl rfl) ip_add (pdDGet2 (hu_of hr) (pv 2) (pdV (pv 6)) (pdC pe_int) ⟨rfl, rfl, rfl, rfl⟩))
            (psCons (psApp (by rfl) (pe_bm PySem.F.plainAttrs_list PySem.F.slot_list_append PySem.F.type_list_append mt_append (pv 5) (pa_cons (pdTup (paCons (pdV (pv 6)) (paCons (pdV (pv 3)) (paCons (pdV (pv 4)) paNil)))) pa_nil)))
            (psOne (psAug (i := 3) sc_table.nd rfl (Or.inl rfl) ip_sub (pdDGet2 (hu_of hr) (pv 1) (pdV (pv 6)) (pdC pe_int) ⟨rfl, rfl, rfl, rfl⟩))))))
          (psOne (psRetOwn (pv 5)))))))))
  case data =>
    rintro rs n Q ⟨rows, rfl, cc, h⟩
    repeat walk_at "d"
    have few := cc.get
    refine ⟨cnd (by omega), fun kb hb => ?_⟩
    repeat walk_at "d"
    refine ⟨cnd (by omega), fun ks hs => ?_⟩
    repeat walk_at "d"
    refine ⟨rfl, by rw [List.length_map]; omega, fun i acc m => m = n ∧ acc = (((rows.take i).filter fun r => decide (r.side = ("buy" : Str))).map Row.left).map PyData.int, ⟨rfl, rfl⟩, ?_, ?_⟩
    · rintro i d acc m hd ⟨rfl, rfl⟩
      rw [List.getElem?_map] at hd
      cases hr : rows[i]? with
      | none => rw [hr] at hd; cases hd
      | some r =>
      rw [hr] at hd
      cases hd
      have et : rows.take (i + 1) = rows.take i ++ [r] := by rw [List.take_succ, hr]; rfl
      refine ⟨_, rfl, ?_⟩
      repeat walk_at "d"
      refine ite2 (fun q => ?_) (fun q => ?_)
      · have q : decide (r.side = ("buy" : Str)) = true := q
        repeat walk_at "d"
        refine ⟨rfl, ?_⟩
        rw [et, List.filter_append, List.filter_cons, if_pos q]
        simp
      · have q : ¬ decide (r.side = ("buy" : Str)) = true := q
        refine ⟨rfl, ?_⟩
        rw [et, List.filter_append, List.filter_cons, if_neg q]
        simp
    · rintro acc m ⟨rfl, rfl⟩
      rw [List.length_map, List.take_length]
      repeat walk_at "d"
      refine ⟨.d (.int (sumM (fun r => decide (r.side = ("buy" : Str))) rows)), by show (intsOf _).map _ = _; rw [intsOf_mapL]; rfl, ?_⟩
      repeat walk_at "d"
      refine ⟨_, rows.map Row.price, rfl, cnd (by rw [List.length_map]; omega), by rw [List.length_map, List.length_map], fun i d hd => ?_, fun out so mo => ?_⟩
      · rw [List.getElem?_map] at hd
        cases hr : rows[i]? with
        | none => rw [hr] at hd; cases hd
        | some r =>
        rw [hr] at hd
        cases hd
        exact ⟨_, r.price, rfl, rfl, by rw [List.getElem?_map, hr]; rfl⟩
      have hP : PricesOk rows out := ⟨so, mo⟩
      repeat walk_at "d"
      refine ⟨fun i ρ m' => m' = m ∧ ∃ j6 j7 : DV, ρ = [.d (dRows rows), .dic kb, .dic ks, .d (.int (sumM (fun r => decide (r.side = ("buy" : Str))) rows - ((out.take i).map (atP rows "buy")).sum)), .d (.int ((out.take i).map (atP rows "sell")).sum), .own ((out.take i).map (stepD rows)), j6, j7], ⟨rfl, .un, .un, ?_⟩, ?_, ?_⟩
      · have e0 : sumM (fun r => decide (r.side = ("buy" : Str))) rows - ((out.take 0).map (atP rows "buy")).sum = sumM (fun r => decide (r.side = ("buy" : Str))) rows := by simp
        rw [e0]
        rfl
      · rintro i d ρ m' hd ⟨rfl, j6, j7, rfl⟩
        rw [List.getElem?_map] at hd
        cases hp : out[i]? with
        | none => rw [hp] at hd; cases hd
        | some p =>
        rw [hp] at hd
        cases hd
        have et : out.take (i + 1) = out.take i ++ [p] := by rw [List.take_succ, hp]; rfl
        have es := sup_take hP hp
        have ed := dem_take hP hp
        rw [et, List.map_append, List.sum_append] at es
        have es' : ((out.take i).map (atP rows "sell")).sum + atP rows "sell" p = supM rows p := by rw [← es]; simp
        repeat walk_at "d"
        refine ⟨.inl p, rfl, ?_⟩
        repeat walk_at "d"
        rw [hs.2 p]
        repeat walk_at "d"
        have hof := hP.few
        refine ⟨by rw [List.length_map, List.length_take]; omega, ?_⟩
        repeat walk_at "d"
        refine ⟨.inl p, rfl, ?_⟩
        repeat walk_at "d"
        rw [hb.2 p]
        repeat walk_at "d"
        have f1 : sumM (fun r => decide (r.side = ("buy" : Str))) rows - ((out.take i).map (atP rows "buy")).sum - atP rows "buy" p = sumM (fun r => decide (r.side = ("buy" : Str))) rows - ((out.take (i + 1)).map (atP rows "buy")).sum := by
          rw [et, List.map_append, List.sum_append]
          simp
          omega
        have f2 : ((out.take i).map (atP rows "sell")).sum + atP rows "sell" p = ((out.take (i + 1)).map (atP rows "sell")).sum := by
          rw [et, List.map_append, List.sum_append]
          simp
        have f3 : (out.take i).map (stepD rows) ++ [.tuple [.int p, .int (sumM (fun r => decide (r.side = ("buy" : Str))) rows - ((out.take i).map (atP rows "buy")).sum), .int (((out.take i).map (atP rows "sell")).sum + atP rows "sell" p)]] = (out.take (i + 1)).map (stepD rows) := by
          rw [ed, es', et, List.map_append]
          rfl
        refine ⟨rfl, .d (.int p), j7, ?_⟩
        rw [← f1, ← f2, ← f3]
        rfl
      · rintro ρ m' ⟨rfl, j6, j7, rfl⟩
        rw [List.length_map, List.take_length]
        exact ⟨_, rfl, rfl, h out hP⟩

local macro_rules | `(tactic| walk_at "d") => `(tactic| first | refine Or.inl ⟨_, rfl, ?_⟩ | refine Or.inr ⟨rfl, ?_⟩ | refine ⟨Nat.le_of_ble_eq_true rfl, ?_⟩ | refine ⟨⟨_, rfl⟩, ?_⟩ | refine ⟨_, rfl, ?_⟩ | refine ⟨_, _, rfl, ?_⟩ | refine ⟨_, _, _, rfl, ?_⟩ | refine ⟨_, _, _, _, rfl, ?_⟩)
/-! ### pairs dealt, one by one -/
structure PSt where
  bl : List Int
  sl : List Int
  i : Nat
  j : Nat
  ps : List (Int × Int × Int)
def minP (a b : Int) : Int := if b < a then b else a
def pairF (buys sells : List Row) : Nat → PSt → Option (List (Int × Int × Int))
  | 0, _ => none
  | k + 1, st => match buys[st.i]?, sells[st.j]? with
    | some b, some s =>
      if st.sl.getD st.j 0 = 0 ∨ b.price < s.price then pairF buys sells k { st with j := st.j + 1 }
      else if st.bl.getD st.i 0 = 0 then pairF buys sells k { st with i := st.i + 1 }
      else pairF buys sells k { st with bl := st.bl.set st.i (st.bl.getD st.i 0 - minP (st.bl.getD st.i 0) (st.sl.getD st.j 0)), sl := st.sl.set st.j (st.sl.getD st.j 0 - minP (st.bl.getD st.i 0) (st.sl.getD st.j 0)), ps := st.ps ++ [(b.num, s.num, minP (st.bl.getD st.i 0) (st.sl.getD st.j 0))] }
    | _, _ => some st.ps
def pairD (p : Int × Int × Int) : PyData := .tuple [.int p.1, .int p.2.1, .int p.2.2]
def mPaired : DM := fun rs n Q => ∃ (buys sells : List Row), rs = [.d (dRows buys), .d (dRows sells)] ∧ Cnd ((buys.length ≤ 1000 ∧ sells.length ≤ 1000) ∧ (∀ r ∈ buys, 0 ≤ r.left) ∧ ∀ r ∈ sells, 0 ≤ r.left) ∧ ∀ k ps, pairF buys sells k ⟨buys.map Row.left, sells.map Row.left, 0, 0, []⟩ = some ps → Q (.own (ps.map pairD)) n
theorem L_paired : ∀ rs n Q, mPaired rs n Q → plainR rs ∧ rs.length = 2 := by
  rintro rs n Q ⟨r, s, rfl, h⟩
  exact plain2
theorem ixI {l : List Int} {j : Nat} {x : Int} (h : l[j]? = some x) : opIxL (.list (l.map PyData.int)) (.int (j : Nat)) = some (.d (.int x)) := by
  show (atI (l.map PyData.int) (j : Int)).map DV.d = _
  rw [atI_nat (v := .int x) (by rw [List.getElem?_map, h]; rfl)]
  rfl
theorem ixRow {l : List Row} {j : Nat} {r : Row} (h : l[j]? = some r) : opIxL (dRows l) (.int (j : Nat)) = some (.d r.dat) := by
  show (atI (l.map Row.dat) (j : Int)).map DV.d = _
  rw [atI_nat (v := r.dat) (by rw [List.getElem?_map, h]; rfl)]
  rfl
def cz (l : List Int) : Nat := l.countP fun x => decide (x ≠ 0)
theorem cz_set : ∀ {l : List Int} {j : Nat} {x y : Int}, l[j]? = some x → x ≠ 0 → cz (l.set j y) ≤ cz l ∧ (y = 0 → cz (l.set j y) + 1 ≤ cz l)
  | [], _, _, _, h, _ => by cases h
  | a :: l, 0, x, y, h, hx => by
    cases h
    unfold cz
    rw [List.set_cons_zero, List.countP_cons, List.countP_cons, if_pos (decide_eq_true hx)]
    refine ⟨by split <;> omega, fun e => ?_⟩
    rw [if_neg (by simp [e])]
    omega
  | a :: l, j + 1, x, y, h, hx => by
    have ih := cz_set (l := l) (j := j) (y := y) (by simpa using h) hx
    unfold cz at ih ⊢
    rw [List.set_cons_succ, List.countP_cons, List.countP_cons]
    exact ⟨by omega, fun e => by have := ih.2 e; omega⟩
theorem cz_le (l : List Int) : cz l ≤ l.length := List.countP_le_length
def muP (nb ns : Nat) (st : PSt) : Nat := (nb - st.i) + (ns - st.j) + cz st.bl + cz st.sl
structure POk (nb ns : Nat) (st : PSt) : Prop where
  bl : st.bl.length = nb
  sl : st.sl.length = ns
  i : st.i ≤ nb
  j : st.j ≤ ns
  b0 : ∀ x ∈ st.bl, 0 ≤ x
  s0 : ∀ x ∈ st.sl, 0 ≤ x
  few : st.ps.length + muP nb ns st ≤ 4000
theorem set_pos {l : List Int} (h : ∀ x ∈ l, 0 ≤ x) (j : Nat) {y : Int} (hy : 0 ≤ y) : ∀ x ∈ l.set j y, 0 ≤ x := fun x hx => by
  rcases List.mem_or_eq_of_mem_set hx with z | z
  · exact h x z
  · rw [z]; exact hy

end
section
variable [Fam] [Tabz] {P : Program} {w : World} {K : PySem.W.Frag} {mg : Str → Option Value} {base : Heap}
local macro_rules | `(tactic| walk_at "d") => `(tactic| first | refine Or.inl ⟨_, rfl, ?_⟩ | refine Or.inr ⟨rfl, ?_⟩ | refine ⟨Nat.le_of_ble_eq_true rfl, ?_⟩ | refine ⟨⟨_, rfl⟩, ?_⟩ | refine ⟨_, rfl, ?_⟩ | refine ⟨_, _, rfl, ?_⟩ | refine ⟨_, _, _, rfl, ?_⟩ | refine ⟨_, _, _, _, rfl, ?_⟩)
/-! ### the price of an opening: the one that is told -/
def absM (i : Int) : Int := if i < 0 then -i else i
def nearM (p o last : Int) : Int := if absM (p - last) < absM (o - last) then p else o
def mNearer : DM := fun rs n Q => ∃ p o last : Int, rs = [.d (.int p), .d (.int o), .d (.int last)] ∧ Q (.d (.int (nearM p o last))) n
theorem L_nearer : ∀ rs n Q, mNearer rs n Q → plainR rs ∧ rs.length = 3 := by
  rintro rs n Q ⟨p, o, l, rfl, h⟩
  exact plain3
structure Span where
  low : Int
  high : Int
  dem : Int
  sup : Int
def Span.dat (s : Span) : PyData := .tuple [.int s.low, .int s.high, .int s.dem, .int s.sup]
def dSpans (l : List Span) : PyData := .list (l.map Span.dat)

end
section
variable [Fam] [Tabz] {P : Program} {w : World} {K : PySem.W.Frag} {mg : Str → Option Value} {base : Heap}
local macro_rules | `(tactic| walk_at "d") => `(tactic| first | refine Or.inl ⟨_, rfl, ?_⟩ | refine Or.inr ⟨rfl, ?_⟩ | refine ⟨Nat.le_of_ble_eq_true rfl, ?_⟩ | refine ⟨⟨_, rfl⟩, ?_⟩ | refine ⟨_, rfl, ?_⟩ | refine ⟨_, _, rfl, ?_⟩ | refine ⟨_, _, _, rfl, ?_⟩ | refine ⟨_, _, _, _, rfl, ?_⟩)
def wantM (l : List Span) : List Span := l.filter fun s => decide (s.sup < s.dem)
def offM (l : List Span) : List Span := l.filter fun s => decide (s.dem < s.sup)
def chosenM (l : List Span) (last : Int) : Int := match (wantM l).getLast?, (offM l).head? with
  | some a, some b => nearM a.high b.low last
  | some a, none => a.high
  | none, some b => b.low
  | none, none => match l.head?, l.getLast? with
    | some a, some b => (fun x y : Int => if y > x then y else x) a.low ((fun x y : Int => if y < x then y else x) b.high last)
    | _, _ => 0
def mChosen : DM := fun rs n Q => ∃ (l : List Span) (last : Int), rs = [.d (dSpans l), .d (.int last)] ∧ Cnd (l ≠ [] ∧ l.length ≤ 50000) ∧ Q (.d (.int (chosenM l last))) n
theorem L_chosen : ∀ rs n Q, mChosen rs n Q → plainR rs ∧ rs.length = 2 := by
  rintro rs n Q ⟨p, o, rfl, h⟩
  exact plain2
def spanW (gt : Bool) : PyData → Bool
  | .tuple [_, _, .int a, .int b] => if gt then decide (b < a) else decide (a < b)
  | _ => false
theorem span_fil (gt : Bool) (l : List Span) : (l.map Span.dat).filter (spanW gt) = (l.filter fun s => if gt then decide (s.sup < s.dem) else decide (s.dem < s.sup)).map Span.dat := by
  rw [List.filter_map]
  rfl
theorem ix_hd {l : List Span} {s : Span} (h : l.head? = some s) : opIxL (.list (l.map Span.dat)) (.int 0) = some (.d s.dat) := by
  cases l with
  | nil => cases h
  | cons a t =>
    cases h
    show ((atI (s.dat :: t.map Span.dat) 0).map DV.d) = some (.d s.dat)
    rw [show atI (s.dat :: t.map Span.dat) 0 = some s.dat from atI_nat (j := 0) rfl]
    rfl
theorem ix_ls {l : List Span} {s : Span} (h : l.getLast? = some s) : opIxL (.list (l.map Span.dat)) (.int (-1)) = some (.d s.dat) := by
  rcases List.eq_nil_or_concat l with rfl | ⟨g, z, rfl⟩
  · cases h
  · rw [List.concat_eq_append, List.getLast?_append] at h
    have hz : z = s := by simpa using h
    subst hz
    rw [List.concat_eq_append]
    show ((atI ((g ++ [z]).map Span.dat) (-1)).map DV.d) = some (.d z.dat)
    have h0 : atI ((g ++ [z]).map Span.dat) (-1) = some z.dat := by
      unfold L2.atI L2.ixN
      have h1 : (1 : Int) ≤ (g.length : Int) + 1 := by omega
      have h2 : (-1 + ((g.length : Int) + 1)).toNat = g.length := by omega
      simp [h1, h2]
    rw [h0]
    rfl
theorem some_hd {l : List Span} (h : (!(l.map Span.dat).isEmpty) = true) : ∃ a b, l.head? = some a ∧ l.getLast? = some b := by
  cases l with
  | nil => cases h
  | cons a t => exact ⟨a, _, rfl, List.getLast?_eq_some_getLast (by simp)⟩
theorem none_hd {l : List Span} (h : ¬ (!(l.map Span.dat).isEmpty) = true) : l.head? = none ∧ l.getLast? = none := by
  cases l with
  | nil => exact ⟨rfl, rfl⟩
  | cons a t => exact absurd rfl h

end
section
variable [Fam] [Tabz] {P : Program} {w : World} {K : PySem.W.Frag} {mg : Str → Option Value} {base : Heap}
local macro_rules | `(tactic| walk_at "d") => `(tactic| first | refine Or.inl ⟨_, rfl, ?_⟩ | refine Or.inr ⟨rfl, ?_⟩ | refine ⟨Nat.le_of_ble_eq_true rfl, ?_⟩ | refine ⟨⟨_, rfl⟩, ?_⟩ | refine ⟨_, rfl, ?_⟩ | refine ⟨_, _, rfl, ?_⟩ | refine ⟨_, _, _, rfl, ?_⟩ | refine ⟨_, _, _, _, rfl, ?_⟩)
/-! ### spans of a table -/
structure Stp where
  p : Int
  d : Int
  s : Int
def Stp.dat (t : Stp) : PyData := .tuple [.int t.p, .int t.d, .int t.s]
def spanAt (st : List Stp) (j : Nat) : List Span := match st[j]? with
  | none => []
  | some c => (if j = 0 then [] else match st[j - 1]? with
    | some b => if c.p - b.p > 1 then [⟨b.p + 1, c.p - 1, c.d, b.s⟩] else []
    | none => []) ++ [⟨c.p, c.p, c.d, c.s⟩]
def spansM (st : List Stp) : List Span := ((List.range st.length).map (spanAt st)).flatten
def mSpans : DM := fun rs n Q => ∃ (st : List Stp), rs = [.d (.list (st.map Stp.dat))] ∧ Cnd (st.length ≤ 20000) ∧ Q (.own ((spansM st).map Span.dat)) n
theorem L_spans_of : ∀ rs n Q, mSpans rs n Q → plainR rs ∧ rs.length = 1 := by
  rintro rs n Q ⟨p, rfl, h⟩
  exact plain1
theorem enum_atS {ds : List PyData} {i : Nat} {d : PyData} (h : (enumD ds)[i]? = some d) : ∃ y, ds[i]? = some y ∧ d = .tuple [.int (i : Nat), y] := by
  have hi : i < ds.length := by
    have := (List.getElem?_eq_some_iff.mp h).1
    rwa [enumD_len] at this
  unfold enumD at h
  rw [List.getElem?_map, List.getElem?_range hi] at h
  cases h
  refine ⟨ds[i], List.getElem?_eq_getElem hi, ?_⟩
  show PyData.tuple [.int (i : Nat), ds.getD i .none] = _
  rw [show ds.getD i .none = ds[i] by rw [List.getD_eq_getElem?_getD, List.getElem?_eq_getElem hi]; rfl]
theorem ixStp {st : List Stp} {j : Nat} {b : Stp} {k : Int} (h : st[j]? = some b) (hk : k = (j : Int)) : opIxL (.list (st.map Stp.dat)) (.int k) = some (.d b.dat) := by
  subst hk
  show (atI (st.map Stp.dat) (j : Int)).map DV.d = _
  rw [atI_nat (v := b.dat) (by rw [List.getElem?_map, h]; rfl)]
  rfl
def preS (st : List Stp) (i : Nat) : List Span := ((List.range i).map (spanAt st)).flatten
theorem pre_succ (st : List Stp) (i : Nat) : preS st (i + 1) = preS st i ++ spanAt st i := by
  unfold preS
  rw [List.range_succ, List.map_append, List.flatten_append]
  simp
theorem spanAt_len (st : List Stp) (j : Nat) : (spanAt st j).length ≤ 2 := by
  unfold spanAt
  cases st[j]? with
  | none => exact Nat.zero_le _
  | some c =>
    dsimp only
    rw [List.length_append]
    split
    · show 0 + 1 ≤ 2; omega
    · cases st[j - 1]? with
      | none => show 0 + 1 ≤ 2; omega
      | some b =>
        dsimp only
        split
        · show 1 + 1 ≤ 2; omega
        · show 0 + 1 ≤ 2; omega
theorem pre_len (st : List Stp) : ∀ i, (preS st i).length ≤ 2 * i
  | 0 => Nat.le_refl _
  | i + 1 => by
    rw [pre_succ, List.length_append]
    have := pre_len st i
    have := spanAt_len st i
    omega

end
section
variable [Fam] [Tabz] {P : Program} {w : World} {K : PySem.W.Frag} {mg : Str → Option Value} {base : Heap}
local macro_rules | `(tactic| walk_at "d") => `(tactic| first | refine Or.inl ⟨_, rfl, ?_⟩ | refine ⟨Nat.le_of_ble_eq_true rfl, ?_⟩ | refine ⟨⟨_, rfl⟩, ?_⟩ | refine ⟨_, rfl, ?_⟩ | refine ⟨_, _, rfl, ?_⟩ | refine ⟨_, _, _, rfl, ?_⟩ | refine ⟨_, _, _, _, rfl, ?_⟩)
/-! ### what openings share with the plain rule -/
def partM (shown : Option Int) (left : Int) : Int := match shown with | none => left | some s => if left < s then left else s
def mPart : DM := fun rs n Q => ∃ (s : Option Int) (l : Int), rs = [.d (datP s), .d (.int l)] ∧ Q (.d (.int (partM s l))) n
theorem L_part_seen : ∀ rs n Q, mPart rs n Q → plainR rs ∧ rs.length = 2 := by
  rintro rs n Q ⟨s, l, rfl, h⟩
  exact plain2
def seenM (r : Row) (a : Int) : Row := { r with left := r.left - a, seen := if r.seen - a > 0 then r.seen - a else 0 }
def mSeen : DM := fun rs n Q => ∃ (r : Row) (a : Int), rs = [.d r.dat, .d (.int a)] ∧ Q (.d (seenM r a).dat) n
theorem L_seen_first : ∀ rs n Q, mSeen rs n Q → plainR rs ∧ rs.length = 2 := by
  rintro rs n Q ⟨s, l, rfl, h⟩
  exact plain2
def sideM (rows : List Row) (s : Str) : List Row := rows.filter fun r => decide (r.side = s)
def leRank (a b : Row) : Bool := decide (a.rank ≤ b.rank)
theorem dat_mem {rs : List Row} {d : PyData} (h : d ∈ rs.map Row.dat) : ∃ r ∈ rs, d = r.dat := by
  obtain ⟨r, h1, h2⟩ := List.mem_map.mp h
  exact ⟨r, h1, h2.symm⟩
theorem filter_dat (p : Row → Bool) (q : PyData → Bool) (h : ∀ r, q r.dat = p r) (rs : List Row) : (rs.map Row.dat).filter q = (rs.filter p).map Row.dat := by
  rw [List.filter_map]
  congr 2
  funext r
  exact h r
theorem sort_dat (rs : List Row) : (rs.map Row.dat).mergeSort leR = (rs.mergeSort leRank).map Row.dat := by
  rw [List.map_mergeSort (s := leR)]
  intro a _ b _
  rfl
theorem opCat_ok {a b : List PyData} (h : a.length + b.length ≤ 200000) : opCat (.list a) (.list b) = some (.own (a ++ b)) := if_pos h

end
section
variable [Fam] [Tabz] {P : Program} {w : World} {K : PySem.W.Frag} {mg : Str → Option Value} {base : Heap}
local macro_rules | `(tactic| walk_at "d") => `(tactic| first | refine Or.inl ⟨_, rfl, ?_⟩ | refine ⟨Nat.le_of_ble_eq_true rfl, ?_⟩ | refine ⟨⟨_, rfl⟩, ?_⟩ | refine ⟨_, rfl, ?_⟩)
/-! ### shown_anew -/
def anewS (a : List Evt × List Row × Int) (r : Row) : List Evt × List Row × Int :=
  if r.seen > 0 then (a.1, a.2.1 ++ [r], a.2.2)
  else if r.left > 0 then (a.1 ++ [.shown r.num (partM r.part r.left)], a.2.1 ++ [{ r with seen := partM r.part r.left, rank := a.2.2 }], a.2.2 + 1) else a
def anewM (rs : List Row) (k : Int) : List Evt × List Row × Int := rs.foldl anewS ([], [], k)
theorem anew_len (rs : List Row) : ∀ a, (rs.foldl anewS a).1.length ≤ a.1.length + rs.length ∧ (rs.foldl anewS a).2.1.length ≤ a.2.1.length + rs.length := by
  induction rs with
  | nil => intro a; exact ⟨Nat.le_refl _, Nat.le_refl _⟩
  | cons r rs ih =>
    intro a
    obtain ⟨h1, h2⟩ := ih (anewS a r)
    have h3 : (anewS a r).1.length ≤ a.1.length + 1 ∧ (anewS a r).2.1.length ≤ a.2.1.length + 1 := by
      unfold anewS
      split
      · simp
      · split <;> simp
    simp only [List.foldl_cons, List.length_cons]
    omega
theorem dat_at {rs : List Row} {i : Nat} {d : PyData} (h : (rs.map Row.dat)[i]? = some d) : ∃ r, rs[i]? = some r ∧ d = r.dat := by
  rw [List.getElem?_map] at h
  cases e : rs[i]? with
  | none => rw [e] at h; cases h
  | some r =>
    rw [e] at h
    cases h
    exact ⟨r, rfl, rfl⟩
theorem take_fold {α β : Type} (f : β → α → β) (b : β) {xs : List α} {i : Nat} {x : α} (h : xs[i]? = some x) : (xs.take (i + 1)).foldl f b = f ((xs.take i).foldl f b) x := by
  rw [List.take_succ, h, List.foldl_append]
  rfl
def mAnew : DM := fun rs n Q => ∃ (rows : List Row) (k : Int), rs = [.d (dRows rows), .d (.int k)] ∧ rows.length ≤ 50000 ∧ Q (.d (.tuple [dEvts (anewM rows k).1, dRows (anewM rows k).2.1, .int (anewM rows k).2.2])) n
theorem L_shown_anew : ∀ rs n Q, mAnew rs n Q → plainR rs ∧ rs.length = 2 := by
  rintro rs n Q ⟨s, l, rfl, h⟩
  exact plain2

end
section
variable [Fam] [Tabz] {P : Program} {w : World} {K : PySem.W.Frag} {mg : Str → Option Value} {base : Heap}
local macro_rules | `(tactic| walk_at "d") => `(tactic| first | refine Or.inl ⟨_, rfl, ?_⟩ | refine ⟨Nat.le_of_ble_eq_true rfl, ?_⟩ | refine ⟨⟨_, rfl⟩, ?_⟩ | refine ⟨_, rfl, ?_⟩ | refine ⟨_, _, rfl, ?_⟩ | refine ⟨_, _, _, rfl, ?_⟩ | refine ⟨_, _, _, _, rfl, ?_⟩)
/-! ### ranked -/
def leRow (neg : Bool) (a b : Row) : Bool := decide (key1 neg a.price < key1 neg b.price ∨ (key1 neg a.price = key1 neg b.price ∧ a.rank ≤ b.rank))
def rankM (rows : List Row) : List Row := (sideM rows "buy").mergeSort (leRow true) ++ (sideM rows "sell").mergeSort (leRow false)
theorem sort_row (neg : Bool) (rs : List Row) : (rs.map Row.dat).mergeSort (leK neg) = (rs.mergeSort (leRow neg)).map Row.dat := by
  rw [List.map_mergeSort (s := leK neg)]
  intro a _ b _
  rfl
def mRanked : DM := fun rs n Q => ∃ rows : List Row, rs = [.d (dRows rows)] ∧ rows.length ≤ 50000 ∧ Q (.own ((rankM rows).map Row.dat)) n
theorem L_ranked : ∀ rs n Q, mRanked rs n Q → plainR rs ∧ rs.length = 1 := by
  rintro rs n Q ⟨r, rfl, h⟩
  exact plain1

end
section
variable [Fam] [Tabz] {P : Program} {w : World} {K : PySem.W.Frag} {mg : Str → Option Value} {base : Heap}
local macro_rules | `(tactic| walk_at "d") => `(tactic| first | refine Or.inl ⟨_, rfl, ?_⟩ | refine Or.inr ⟨rfl, ?_⟩ | refine ⟨Nat.le_of_ble_eq_true rfl, ?_⟩ | refine ⟨⟨_, rfl⟩, ?_⟩ | refine ⟨_, rfl, ?_⟩ | refine ⟨_, _, rfl, ?_⟩ | refine ⟨_, _, _, rfl, ?_⟩ | refine ⟨_, _, _, _, rfl, ?_⟩)
/-! ### the price of an opening -/
def volS (s : Span) : Int := if s.sup < s.dem then s.sup else s.dem
def gapS (s : Span) : Int := absM (s.dem - s.sup)
def priceM (st : List Stp) (last : Int) : Option Int × Int :=
  if maxDf ((spansM st).map volS) 0 = 0 then (none, 0)
  else (some (chosenM (((spansM st).filter fun s => decide (volS s = maxDf ((spansM st).map volS) 0)).filter fun s => decide (gapS s = (minI (((spansM st).filter fun s => decide (volS s = maxDf ((spansM st).map volS) 0)).map gapS)).getD 0)) last), maxDf ((spansM st).map volS) 0)
def mPrice : DM := fun rs n Q => ∃ (st : List Stp) (last : Int), rs = [.d (.list (st.map Stp.dat)), .d (.int last)] ∧ Cnd (st.length ≤ 20000) ∧ Q (.d (.tuple [datP (priceM st last).1, .int (priceM st last).2])) n
theorem L_price_of : ∀ rs n Q, mPrice rs n Q → plainR rs ∧ rs.length = 2 := by
  rintro rs n Q ⟨p, o, rfl, h⟩
  exact plain2
theorem maxDf_mem {ns : List Int} {d : Int} (h : ns ≠ []) : maxDf ns d ∈ ns := by
  cases ns with
  | nil => exact absurd rfl h
  | cons n ns => exact (foldl_max ns n).1
theorem maxDf_le {ns : List Int} {d : Int} : ∀ i ∈ ns, i ≤ maxDf ns d := by
  cases ns with
  | nil => intro i h; cases h
  | cons n ns => exact (foldl_max ns n).2
theorem minI_mem {ns : List Int} (h : ns ≠ []) : (minI ns).getD 0 ∈ ns := by
  cases ns with
  | nil => exact absurd rfl h
  | cons n ns => exact (foldl_min ns n).1
theorem minI_le {ns : List Int} : ∀ i ∈ ns, (minI ns).getD 0 ≤ i := by
  cases ns with
  | nil => intro i h; cases h
  | cons n ns => exact (foldl_min ns n).2
def spanV (m : Int) : PyData → Bool
  | .tuple [_, _, .int a, .int b] => decide ((if b < a then b else a) = m)
  | _ => false
def spanG (m : Int) : PyData → Bool
  | .tuple [_, _, .int a, .int b] => decide ((if a - b < 0 then -(a - b) else a - b) = m)
  | _ => false
theorem spanV_fil (m : Int) (l : List Span) : (l.map Span.dat).filter (spanV m) = (l.filter fun s => decide (volS s = m)).map Span.dat := by
  rw [List.filter_map]
  rfl
theorem spanG_fil (m : Int) (l : List Span) : (l.map Span.dat).filter (spanG m) = (l.filter fun s => decide (gapS s = m)).map Span.dat := by
  rw [List.filter_map]
  rfl
theorem span_mem {l : List Span} {d : PyData} (h : d ∈ l.map Span.dat) : ∃ s, d = Span.dat s := by
  obtain ⟨s, _, e⟩ := List.mem_map.mp h
  exact ⟨s, e.symm⟩
theorem spansM_len (st : List Stp) : (spansM st).length ≤ 2 * st.length := pre_len st st.length
theorem bMinSp {l : List Span} (h : l ≠ []) : bMinL [.list (l.map fun s => PyData.int (gapS s))] = some (.d (.int ((minI (l.map gapS)).getD 0))) := by
  show (intsOf (l.map fun s => PyData.int (gapS s))).bind _ = _
  have e : (l.map fun s => PyData.int (gapS s)) = (l.map gapS).map PyData.int := by rw [List.map_map]; rfl
  rw [e, intsOf_mapL]
  cases l with
  | nil => exact absurd rfl h
  | cons a t => rfl

end
section
variable [Fam] [Tabz] {P : Program} {w : World} {K : PySem.W.Frag} {mg : Str → Option Value} {base : Heap}
local macro_rules | `(tactic| walk_at "d") => `(tactic| first | refine Or.inl ⟨_, rfl, ?_⟩ | refine Or.inr ⟨rfl, ?_⟩ | refine ⟨Nat.le_of_ble_eq_true rfl, ?_⟩ | refine ⟨⟨_, rfl⟩, ?_⟩ | refine ⟨_, rfl, ?_⟩ | refine ⟨_, _, rfl, ?_⟩ | refine ⟨_, _, _, rfl, ?_⟩ | refine ⟨_, _, _, _, rfl, ?_⟩)
/-! ### what is dealt, row by row -/
abbrev Pr := Int × Int × Int
def dealtM (ps : List Pr) (m : Int) : Int := (ps.map fun p => (if p.1 = m then p.2.2 else 0) + (if p.2.1 = m then p.2.2 else 0)).sum
def behindM (rows : List Row) (ps : List Pr) : List Row := (rows.mergeSort leRank).map fun r => seenM r (dealtM ps r.num)
def DealtOk (ps : List Pr) (kvs : List (Key × PyData)) : Prop := kvs.length ≤ 2 * ps.length ∧ ∀ p : Int, (valD kvs (.inl p)).getD (.int 0) = .int (dealtM ps p)
def mBehind : DM := fun rs n Q => ∃ (rows : List Row) (ps : List Pr), rs = [.d (dRows rows), .d (.list (ps.map pairD))] ∧ Cnd (rows.length ≤ 50000 ∧ ps.length ≤ 40000) ∧ Q (.own ((behindM rows ps).map Row.dat)) n
theorem L_behind : ∀ rs n Q, mBehind rs n Q → plainR rs ∧ rs.length = 2 := by
  rintro rs n Q ⟨p, o, rfl, h⟩
  exact plain2
theorem dealt_snoc (ps : List Pr) (p : Pr) (m : Int) : dealtM (ps ++ [p]) m = dealtM ps m + (if p.1 = m then p.2.2 else 0) + (if p.2.1 = m then p.2.2 else 0) := by
  unfold dealtM
  rw [List.map_append, List.sum_append]
  simp
  omega
theorem dealt_add {ps : List Pr} {kvs : List (Key × PyData)} (h : DealtOk ps kvs) {p : Pr} {x : Int} (hx : x = dealtM ps p.2.1 + (if p.1 = p.2.1 then p.2.2 else 0) + p.2.2) : DealtOk (ps ++ [p]) (putKD (putKD kvs (.inl p.1) (.int (dealtM ps p.1 + p.2.2))) (.inl p.2.1) (.int x)) := by
  refine ⟨?_, fun m => ?_⟩
  · have h1 := putKD_len (putKD kvs (.inl p.1) (.int (dealtM ps p.1 + p.2.2))) (.inl p.2.1) (.int x)
    have h2 := putKD_len kvs (.inl p.1) (.int (dealtM ps p.1 + p.2.2))
    have h3 := h.1
    rw [List.length_append]
    show _ ≤ 2 * (ps.length + 1)
    omega
  · rw [valD_put, valD_put, dealt_snoc]
    simp only [Sum.inl.injEq]
    by_cases q : m = p.2.1
    · subst q
      rw [if_pos rfl, hx]
      simp
    · have q' : ¬ p.2.1 = m := fun z => q z.symm
      rw [if_neg q, if_neg q']
      by_cases q2 : m = p.1
      · subst q2
        simp
      · have q3 : ¬ p.1 = m := fun z => q2 z.symm
        rw [if_neg q2, if_neg q3, h.2 m]
        simp
theorem dealt_mid {ps : List Pr} {kvs : List (Key × PyData)} (h : DealtOk ps kvs) {p : Pr} : (valD (putKD kvs (.inl p.1) (.int (dealtM ps p.1 + p.2.2))) (.inl p.2.1)).getD (.int 0) = .int (dealtM ps p.2.1 + (if p.1 = p.2.1 then p.2.2 else 0)) := by
  rw [valD_put]
  by_cases q : p.2.1 = p.1
  · rw [if_pos (by rw [q]), if_pos q.symm, q]
    rfl
  · rw [if_neg (fun z => q (Sum.inl.inj z)), if_neg (fun z => q z.symm), h.2]
    simp

end
section
variable [Fam] [Tabz] {P : Program} {w : World} {K : PySem.W.Frag} {mg : Str → Option Value} {base : Heap}
local macro_rules | `(tactic| walk_at "d") => `(tactic| first | refine Or.inl ⟨_, rfl, ?_⟩ | refine Or.inr ⟨rfl, ?_⟩ | refine ⟨Nat.le_of_ble_eq_true rfl, ?_⟩ | refine ⟨⟨_, rfl⟩, ?_⟩ | refine ⟨_, rfl, ?_⟩ | refine ⟨_, _, rfl, ?_⟩ | refine ⟨_, _, _, rfl, ?_⟩ | refine ⟨_, _, _, _, rfl, ?_⟩)
/-! ### the opening -/
theorem prices_uniq {rows : List Row} {a b : List Int} (ha : PricesOk rows a) (hb : PricesOk rows b) : a = b := by
  have nd : ∀ l : List Int, l.Pairwise (· < ·) → l.Nodup := fun l h => h.imp fun h e => by omega
  refine List.Perm.eq_of_pairwise (le := fun x y : Int => x < y) (fun x y _ _ h1 h2 => by omega) ha.1 hb.1 ?_
  exact (List.perm_ext_iff_of_nodup (nd a ha.1) (nd b hb.1)).mpr fun k => (ha.2 k).trans (hb.2 k).symm
def insP (p : Int) : List Int → List Int
  | [] => [p]
  | q :: t => if p < q then p :: q :: t else if p = q then q :: t else q :: insP p t
def pricesM (rows : List Row) : List Int := rows.foldr (fun r l => insP r.price l) []
theorem insP_mem (p k : Int) : ∀ l, k ∈ insP p l ↔ k = p ∨ k ∈ l
  | [] => by simp [insP]
  | q :: t => by
    unfold insP
    split
    · simp
    · split
      · rename_i h
        subst h
        simp
      · rw [List.mem_cons, insP_mem p k t, List.mem_cons]
        constructor
        · rintro (h | h | h)
          · exact .inr (.inl h)
          · exact .inl h
          · exact .inr (.inr h)
        · rintro (h | h | h)
          · exact .inr (.inl h)
          · exact .inl h
          · exact .inr (.inr h)
theorem insP_pw (p : Int) : ∀ l : List Int, l.Pairwise (· < ·) → (insP p l).Pairwise (· < ·)
  | [], _ => List.pairwise_singleton _ _
  | q :: t, h => by
    obtain ⟨h1, h2⟩ := List.pairwise_cons.mp h
    unfold insP
    split
    · rename_i hp
      refine List.pairwise_cons.mpr ⟨fun x hx => ?_, h⟩
      rcases List.mem_cons.mp hx with e | e
      · omega
      · have := h1 x e
        omega
    · split
      · exact h
      · refine List.pairwise_cons.mpr ⟨fun x hx => ?_, insP_pw p t h2⟩
        rcases (insP_mem p x t).mp hx with e | e
        · omega
        · exact h1 x e
theorem pricesM_ok (rows : List Row) : PricesOk rows (pricesM rows) := by
  induction rows with
  | nil => exact ⟨List.Pairwise.nil, fun k => Iff.rfl⟩
  | cons r rows ih =>
    refine ⟨insP_pw _ _ ih.1, fun k => ?_⟩
    show k ∈ insP r.price (pricesM rows) ↔ k ∈ r.price :: rows.map Row.price
    rw [insP_mem, ih.2 k, List.mem_cons]
def stepsM (rows : List Row) : List Stp := (pricesM rows).map fun p => ⟨p, demM rows p, supM rows p⟩
theorem steps_dat (rows : List Row) : (pricesM rows).map (stepD rows) = (stepsM rows).map Stp.dat := by
  unfold stepsM
  rw [List.map_map]
  rfl
/-! what is paired -/
def pair0 (b s : List Row) : PSt := ⟨b.map Row.left, s.map Row.left, 0, 0, []⟩
theorem pairF_up (b s : List Row) : ∀ (k : Nat) (st : PSt) (ps : List Pr), pairF b s k st = some ps → pairF b s (k + 1) st = some ps
  | 0, st, ps, h => by cases h
  | k + 1, st, ps, h => by
    have ih := pairF_up b s k
    unfold pairF at h ⊢
    cases e1 : b[st.i]? with
    | none => rw [e1] at h; exact h
    | some x =>
      cases e2 : s[st.j]? with
      | none => rw [e1, e2] at h; exact h
      | some y =>
        rw [e1, e2] at h
        dsimp only at h ⊢
        split
        · rename_i c
          rw [if_pos c] at h
          exact ih _ _ h
        · rename_i c
          rw [if_neg c] at h
          split
          · rename_i c2
            rw [if_pos c2] at h
            exact ih _ _ h
          · rename_i c2
            rw [if_neg c2] at h
            exact ih _ _ h
theorem pairF_ups (b s : List Row) {k : Nat} {st : PSt} {ps : List Pr} (h : pairF b s k st = some ps) : ∀ m, pairF b s (k + m) st = some ps
  | 0 => h
  | m + 1 => pairF_up b s _ _ _ (pairF_ups b s h m)
theorem pairF_uniq {b s : List Row} {k k' : Nat} {st : PSt} {ps ps' : List Pr} (h : pairF b s k st = some ps) (h' : pairF b s k' st = some ps') : ps = ps' := by
  have h1 := pairF_ups b s h k'
  have h2 := pairF_ups b s h' k
  rw [Nat.add_comm] at h2
  rw [h1] at h2
  exact Option.some.inj h2
noncomputable def pairsM (b s : List Row) : List Pr := open Classical in if h : ∃ ps k, pairF b s k (pair0 b s) = some ps then h.choose else []
theorem pairsM_eq {b s : List Row} {k : Nat} {ps : List Pr} (h : pairF b s k (pair0 b s) = some ps) : pairsM b s = ps := by
  have hx : ∃ ps k, pairF b s k (pair0 b s) = some ps := ⟨ps, k, h⟩
  unfold pairsM
  rw [dif_pos hx]
  obtain ⟨k', h'⟩ := hx.choose_spec
  exact pairF_uniq h' h
theorem pairF_len (b s : List Row) : ∀ (k : Nat) (st : PSt) (ps : List Pr), pairF b s k st = some ps → (∀ x ∈ st.bl, 0 ≤ x) → (∀ x ∈ st.sl, 0 ≤ x) → ps.length ≤ st.ps.length + cz st.bl + cz st.sl
  | 0, st, ps, h, _, _ => by cases h
  | k + 1, st, ps, h, h0, h1 => by
    have ih := pairF_len b s k
    unfold pairF at h
    cases e1 : b[st.i]? with
    | none => rw [e1] at h; cases h; omega
    | some x =>
      cases e2 : s[st.j]? with
      | none => rw [e1, e2] at h; cases h; omega
      | some y =>
        rw [e1, e2] at h
        dsimp only at h
        split at h
        · exact ih { st with j := st.j + 1 } _ h h0 h1
        · rename_i c
          split at h
          · exact ih { st with i := st.i + 1 } _ h h0 h1
          · rename_i c2
            have nb : st.bl.getD st.i 0 ≠ 0 := c2
            have ns : st.sl.getD st.j 0 ≠ 0 := fun z => c (.inl z)
            rw [List.getD_eq_getElem?_getD] at nb ns
            cases ex : st.bl[st.i]? with
            | none => rw [ex] at nb; exact absurd rfl nb
            | some u =>
            cases ey : st.sl[st.j]? with
            | none => rw [ey] at ns; exact absurd rfl ns
            | some v =>
            have gx : st.bl.getD st.i 0 = u := by rw [List.getD_eq_getElem?_getD, ex]; rfl
            have gy : st.sl.getD st.j 0 = v := by rw [List.getD_eq_getElem?_getD, ey]; rfl
            rw [ex] at nb
            rw [ey] at ns
            rw [gx, gy] at h
            have u0 := h0 u (List.mem_of_getElem? ex)
            have v0 := h1 v (List.mem_of_getElem? ey)
            have mn : 0 ≤ minP u v ∧ minP u v ≤ u ∧ minP u v ≤ v ∧ (u - minP u v = 0 ∨ v - minP u v = 0) := by
              unfold minP
              split <;> omega
            have q := ih _ _ h (set_pos h0 _ (by omega)) (set_pos h1 _ (by omega))
            have cb := cz_set (y := u - minP u v) ex nb
            have cs := cz_set (y := v - minP u v) ey ns
            rw [show (st.ps ++ [(x.num, y.num, minP u v)]).length = st.ps.length + 1 by rw [List.length_append]; rfl] at q
            dsimp only at q
            rcases mn.2.2.2 with e | e
            · have := cb.2 e
              omega
            · have := cs.2 e
              omega
theorem pairs_len {b s : List Row} {k : Nat} {ps : List Pr} (h : pairF b s k (pair0 b s) = some ps) (hb : ∀ r ∈ b, 0 ≤ r.left) (hs : ∀ r ∈ s, 0 ≤ r.left) : ps.length ≤ b.length + s.length := by
  have pos0 : ∀ rs : List Row, (∀ r ∈ rs, 0 ≤ r.left) → ∀ x ∈ rs.map Row.left, 0 ≤ x := fun rs h x hx => by
    obtain ⟨r, hr, rfl⟩ := List.mem_map.mp hx
    exact h r hr
  have q := pairF_len b s k _ ps h (pos0 b hb) (pos0 s hs)
  have h1 := cz_le (b.map Row.left)
  have h2 := cz_le (s.map Row.left)
  rw [List.length_map] at h1 h2
  have q' : ps.length ≤ 0 + cz (b.map Row.left) + cz (s.map Row.left) := q
  omega
def buysAt (rows : List Row) (p : Int) : List Row := (rankM rows).filter fun r => decide (r.side = ("buy" : Str)) && decide (p ≤ r.price)
def sellsAt (rows : List Row) (p : Int) : List Row := (rankM rows).filter fun r => decide (r.side = ("sell" : Str)) && decide (r.price ≤ p)
noncomputable def dealsM (rows : List Row) (p : Int) : List Pr := pairsM (buysAt rows p) (sellsAt rows p)
def tradesM (p : Int) (ps : List Pr) : List Evt := ps.map fun q => .trade q.1 q.2.1 p q.2.2
structure OpR where
  price : Option Int
  vol : Int
  evs : List Evt
  rows : List Row
  rank : Int
def OpR.dat (o : OpR) : PyData := .tuple [datP o.price, .int o.vol, dEvts o.evs, dRows o.rows, .int o.rank]
noncomputable def openM (rows : List Row) (last rank : Int) : OpR := match priceM (stepsM rows) last with
  | (none, _) => ⟨none, 0, [], rankM rows, rank⟩
  | (some p, v) => ⟨some p, v, tradesM p (dealsM rows p) ++ (anewM (behindM rows (dealsM rows p)) rank).1, rankM (anewM (behindM rows (dealsM rows p)) rank).2.1, (anewM (behindM rows (dealsM rows p)) rank).2.2⟩
def mOpen : DM := fun rs n Q => ∃ (rows : List Row) (last rank : Int), rs = [.d (dRows rows), .d (.int last), .d (.int rank)] ∧ Cnd (rows.length < 64 ∧ ∀ r ∈ rows, 0 ≤ r.left) ∧ Q (.d (openM rows last rank).dat) n
theorem L_opening : ∀ rs n Q, mOpen rs n Q → plainR rs ∧ rs.length = 3 := by
  rintro rs n Q ⟨p, o, k, rfl, h⟩
  exact plain3
def sideW (s : Str) (f : Int → Bool) : PyData → Bool
  | .tuple [_, _, .str x, .int y, _, _, _, _] => decide (x = s) && f y
  | _ => false
theorem rankM_len (rows : List Row) : (rankM rows).length ≤ 2 * rows.length := by
  unfold rankM sideM
  rw [List.length_append, List.length_mergeSort, List.length_mergeSort]
  have h1 := List.length_filter_le (fun r : Row => decide (r.side = "buy")) rows
  have h2 := List.length_filter_le (fun r : Row => decide (r.side = "sell")) rows
  omega
theorem rankM_sub {rows : List Row} {r : Row} (h : r ∈ rankM rows) : r ∈ rows := by
  unfold rankM sideM at h
  rcases List.mem_append.mp h with h | h
  · exact (List.mem_filter.mp (List.mem_mergeSort.mp h)).1
  · exact (List.mem_filter.mp (List.mem_mergeSort.mp h)).1

end
section
variable [Fam] [Tabz] {P : Program} {w : World} {K : PySem.W.Frag} {mg : Str → Option Value} {base : Heap}
local macro_rules | `(tactic| walk_at "d") => `(tactic| first | refine Or.inl ⟨_, rfl, ?_⟩ | refine Or.inr ⟨rfl, ?_⟩ | refine ⟨Nat.le_of_ble_eq_true rfl, ?_⟩ | refine ⟨⟨_, rfl⟩, ?_⟩ | refine ⟨_, rfl, ?_⟩ | refine ⟨_, _, rfl, ?_⟩ | refine ⟨_, _, _, rfl, ?_⟩ | refine ⟨_, _, _, _, rfl, ?_⟩)
/-! ### worth -/
def gainM (r : Row) (p : Int) : Int := if r.side = ("buy" : Str) then r.price - p else p - r.price
def posM (g : Int) : Int := if g > 0 then g else 0
def worthM (rows : List Row) (p : Int) : Int := (rows.map fun r => r.left * posM (gainM r p)).sum
def WorthOk (rows : List Row) (p : Int) : Prop := (∀ r ∈ rows, (0 ≤ r.left ∧ r.left < 2 ^ 64) ∧ (0 ≤ r.price ∧ r.price < 2 ^ 60)) ∧ 0 ≤ p ∧ p < 2 ^ 60
def mLawWorth : DM := fun rs n Q => ∃ (rows : List Row) (p : Int), rs = [.d (dRows rows), .d (.int p)] ∧ Cnd (WorthOk rows p ∧ ∀ r ∈ rows, r.side = "buy" ∨ r.side = "sell") ∧ Q (.d (.int (worthM rows p))) n
def mWorth : DM := fun rs n Q => ∃ (rows : List Row) (p : Int), rs = [.d (dRows rows), .d (.int p)] ∧ Cnd (WorthOk rows p) ∧ Q (.d (.int (worthM rows p))) n
theorem L_worth : ∀ rs n Q, mWorth rs n Q → plainR rs ∧ rs.length = 2 := by
  rintro rs n Q ⟨r, s, rfl, h⟩
  exact plain2
theorem logW {i : Int} (h0 : 0 ≤ i) (h : i < 2 ^ 64) : i.natAbs.log2 < 64 := by
  by_cases z : i = 0
  · subst z; decide
  · refine (Nat.log2_lt (by omega)).mpr ?_
    omega
theorem mulW {i j : Int} (h0 : 0 ≤ i ∧ i < 2 ^ 64) (h : 0 ≤ j ∧ j < 2 ^ 64) : CMulW i j := by
  show i.natAbs.log2 + j.natAbs.log2 < 1000000
  have h1 := logW h0.1 h0.2
  have h2 := logW h.1 h.2
  omega
theorem worth_snoc (rows : List Row) (r : Row) (p : Int) : worthM (rows ++ [r]) p = worthM rows p + r.left * posM (gainM r p) := by
  unfold worthM
  rw [List.map_append, List.sum_append]
  simp
abbrev s_worth : Stmt := topS 5
theorem sc_worth : FnScope ["rows", "price", "told", "row", "gain"] ["rows", "price"] (defScope s_worth) := ⟨rfl, rfl, rfl, by decide +kernel, rfl, by decide +kernel, by decide +kernel⟩
theorem ok_worth {f : Addr} {fd : FuncData} (F : Fun K "worth" "worth" s_worth f fd) (T : Txt mg) : FnOk P w K mg base CX0 1 f fd ["rows", "price"] (spD mWorth) := by
  apply okD F sc_worth L_worth
  case body =>
    intro cdv A outer s H E hr
    obtain ⟨_, mG_BUY⟩ := T.mg_BUY
    exact (psCons (psSet (i := 2) sc_worth.nd rfl (Or.inl rfl) (pdC pe_int))
          (psCons (psFor PassesOwn.never rfl (piList (pdV (pv 0))) (pgN (pg_name (i := 3) sc_worth.nd rfl (Or.inl rfl)))
           (psCons (psSet (i := 4) sc_worth.nd rfl (Or.inl rfl) (pdIf (ptCmp r2Eq op_eq (pdIx r2IxT ix_tup (pdV (pv 3)) (pdC pe_int) (fun _ _ => rfl)) (pdC (pe_glob (v := .str "buy") (by rfl) mG_BUY ⟨_, rfl⟩)) (nomark _)) (pdOp r2Sub op_sub (pdIx r2IxT ix_tup (pdV (pv 3)) (pdC pe_int) (fun _ _ => rfl)) (pdV (pv 1))) (pdOp r2Sub op_sub (pdV (pv 1)) (pdIx r2IxT ix_tup (pdV (pv 3)) (pdC pe_int) (fun _ _ => rfl)))))
            (psOne (psAug (i := 2) sc_worth.nd rfl (Or.inl rfl) ip_add (pdOp r2Mul op_mulW (pdIx r2IxT ix_tup (pdV (pv 3)) (pdC pe_int) (fun _ _ => rfl)) (pdB rs2I (call_max2 rfl) (by rfl) T.b_max (by decide +kernel) (paCons (pdC pe_int) (paCons (pdV (pv 4)) paNil))))))))
          (psOne (psRet (pdV (pv 2))))))
  case data =>
    rintro rs n Q ⟨rows, p, rfl, cc, h⟩
    obtain ⟨hr0, hp0, hp1⟩ := cc.get
    repeat walk_at "d"
    refine ⟨fun i ρ m => m = n ∧ ∃ j3 j4 : DV, ρ = [.d (dRows rows), .d (.int p), .d (.int (worthM (rows.take i) p)), j3, j4], ⟨rfl, .un, .un, rfl⟩, ?_, ?_⟩
    · rintro i d ρ m hd ⟨rfl, j3, j4, rfl⟩
      rw [List.getElem?_map] at hd
      cases hr : rows[i]? with
      | none => rw [hr] at hd; cases hd
      | some r =>
      rw [hr] at hd
      cases hd
      have et : rows.take (i + 1) = rows.take i ++ [r] := by rw [List.take_succ, hr]; rfl
      have hok := hr0 r (List.mem_of_getElem? hr)
      repeat walk_at "d"
      refine ite2 (fun q => ?_) (fun q => ?_)
      · have q : r.side = ("buy" : Str) := of_decide_eq_true q
        have eg : gainM r p = r.price - p := if_pos q
        have ep : 0 ≤ posM (r.price - p) ∧ posM (r.price - p) < 2 ^ 64 := by unfold posM; split <;> omega
        repeat walk_at "d"
        refine ⟨_, if_pos (decide_eq_true (mulW hok.1 ep)), ?_⟩
        repeat walk_at "d"
        refine ⟨rfl, .d r.dat, .d (.int (r.price - p)), ?_⟩
        rw [et, worth_snoc, eg]
        rfl
      · have q : ¬ r.side = ("buy" : Str) := fun z => q (decide_eq_true z)
        have eg : gainM r p = p - r.price := if_neg q
        have ep : 0 ≤ posM (p - r.price) ∧ posM (p - r.price) < 2 ^ 64 := by unfold posM; split <;> omega
        repeat walk_at "d"
        refine ⟨_, if_pos (decide_eq_true (mulW hok.1 ep)), ?_⟩
        repeat walk_at "d"
        refine ⟨rfl, .d r.dat, .d (.int (p - r.price)), ?_⟩
        rw [et, worth_snoc, eg]
        rfl
    · rintro ρ m ⟨rfl, j3, j4, rfl⟩
      rw [List.length_map, List.take_length]
      exact .inl ⟨_, rfl, h⟩

end
section
variable [Fam] [Tabz]
/-! ### shapes of rows, events, openings -/
def RowTxt (r : Row) : Prop := PyData.strOk r.who = true ∧ (r.side = "buy" ∨ r.side = "sell")
theorem side_lay {s : Str} (h : s = "buy" ∨ s = "sell") : PyData.strOk s = true := by
  rcases h with rfl | rfl <;> decide +kernel
theorem Row.lay {r : Row} (h : PyData.strOk r.who = true) (h2 : r.side = "buy" ∨ r.side = "sell") : r.dat.canLay0 = true := by
  obtain ⟨num, who, side, price, part, left, seen, rank⟩ := r
  have h2 := side_lay h2
  cases part <;> simp_all [Row.dat, datP, PyData.canLay0, PyData.canLayAll0]
theorem rows_lay2 : ∀ {rs : List Row}, (∀ r ∈ rs, RowTxt r) → PyData.canLayAll0 (rs.map Row.dat) = true
  | [], _ => rfl
  | r :: rs, h => by
    show (PyData.canLay0 r.dat && PyData.canLayAll0 (rs.map Row.dat)) = true
    have h1 := h r List.mem_cons_self
    rw [Row.lay h1.1 h1.2, rows_lay2 fun x hx => h x (List.mem_cons_of_mem _ hx)]
    rfl
theorem Row.depth (r : Row) : r.dat.depth = 1 := by
  obtain ⟨num, who, side, price, part, left, seen, rank⟩ := r
  cases part <;> simp [Row.dat, datP, PyData.depth, PyData.depthAll]
theorem rows_depth : ∀ rs : List Row, PyData.depthAll (rs.map Row.dat) ≤ 1
  | [] => by show 0 ≤ 1; omega
  | r :: rs => by
    have := rows_depth rs
    simp only [List.map_cons, PyData.depthAll, Row.depth]
    omega
theorem shaped_of {d : PyData} (h : d.canLay0 = true) (h2 : d.depth ≤ 64) : SeqAt.shaped d = true := by
  unfold SeqAt.shaped
  rw [h, Bool.true_and]
  exact decide_eq_true h2
theorem row_shaped {r : Row} (h : RowTxt r) : SeqAt.shaped r.dat = true := shaped_of (Row.lay h.1 h.2) (by rw [Row.depth]; decide)
theorem rows_shaped2 {rs : List Row} (h : ∀ r ∈ rs, RowTxt r) : SeqAt.shaped (dRows rs) = true := by
  have := rows_depth rs
  refine shaped_of ?_ ?_
  · simp only [dRows, PyData.canLay0]
    exact rows_lay2 h
  · simp only [dRows, PyData.depth]
    omega
theorem Evt.lay (e : Evt) : e.dat.canLay0 = true := by
  cases e <;> (simp only [Evt.dat, PyData.canLay0, PyData.canLayAll0]; decide +kernel)
theorem Evt.depth (e : Evt) : e.dat.depth = 1 := by
  cases e <;> simp [Evt.dat, PyData.depth, PyData.depthAll]
theorem evts_lay : ∀ es : List Evt, PyData.canLayAll0 (es.map Evt.dat) = true
  | [] => rfl
  | e :: es => by
    show (PyData.canLay0 e.dat && PyData.canLayAll0 (es.map Evt.dat)) = true
    rw [Evt.lay, evts_lay es]
    rfl
theorem evts_depth : ∀ es : List Evt, PyData.depthAll (es.map Evt.dat) ≤ 1
  | [] => by show 0 ≤ 1; omega
  | e :: es => by
    have := evts_depth es
    simp only [List.map_cons, PyData.depthAll, Evt.depth]
    omega
theorem evts_shaped (es : List Evt) : SeqAt.shaped (dEvts es) = true := by
  have d1 := evts_depth es
  refine shaped_of ?_ ?_
  · simp only [dEvts, PyData.canLay0]
    exact evts_lay es
  · simp only [dEvts, PyData.depth]
    omega
theorem datP_lay (o : Option Int) : (datP o).canLay0 = true ∧ (datP o).depth = 0 := by
  cases o <;> exact ⟨rfl, by simp [datP, PyData.depth]⟩
theorem opr_shaped {o : OpR} (h : ∀ r ∈ o.rows, RowTxt r) : SeqAt.shaped o.dat = true := by
  have d1 := evts_depth o.evs
  have d2 := rows_depth o.rows
  obtain ⟨p1, p2⟩ := datP_lay o.price
  refine shaped_of ?_ ?_
  · simp only [OpR.dat, dEvts, dRows, PyData.canLay0, PyData.canLayAll0, evts_lay, rows_lay2 h, p1]
    rfl
  · simp only [OpR.dat, dEvts, dRows, PyData.depth, PyData.depthAll, p2]
    omega
theorem ints_lay : ∀ ns : List Int, PyData.canLayAll0 (ns.map PyData.int) = true
  | [] => rfl
  | n :: ns => by
    show (PyData.canLay0 (.int n) && PyData.canLayAll0 (ns.map PyData.int)) = true
    rw [ints_lay ns]
    rfl
/-- a thing is like itself -/
theorem ne_self {d : PyData} (h : SeqAt.shaped d = true) : opNeD d d = some (.d (.bool false)) := by
  have hs : opNeD d d = some (.d (.bool (!PyData.eqv d d))) := if_pos ⟨h, h⟩
  rw [hs, SeqAt.eqv_refl _ (SeqAt.canLay_of_shaped h)]
  rfl
theorem eq_self {d : PyData} (h : SeqAt.shaped d = true) : opEqD d d = some (.d (.bool true)) := by
  have hs : opEqD d d = some (.d (.bool (PyData.eqv d d))) := if_pos ⟨h, h⟩
  rw [hs, SeqAt.eqv_refl _ (SeqAt.canLay_of_shaped h)]
theorem nil_eqR (rs : List Row) (h : ∀ r ∈ rs, RowTxt r) : opEqD (dRows rs) (.list []) = some (.d (.bool rs.isEmpty)) := by
  have hs : opEqD (dRows rs) (.list []) = some (.d (.bool (PyData.eqv (dRows rs) (.list [])))) := if_pos ⟨rows_shaped2 h, rows_shaped2 (rs := []) (fun _ h => nomatch h)⟩
  rw [hs]
  cases rs <;> simp [dRows, PyData.eqv, PyData.eqvAll]
theorem nil_neR (rs : List Row) (h : ∀ r ∈ rs, RowTxt r) : opNeD (dRows rs) (.list []) = some (.d (.bool (!rs.isEmpty))) := by
  have hs : opNeD (dRows rs) (.list []) = some (.d (.bool (!PyData.eqv (dRows rs) (.list [])))) := if_pos ⟨rows_shaped2 h, rows_shaped2 (rs := []) (fun _ h => nomatch h)⟩
  rw [hs]
  cases rs <;> simp [dRows, PyData.eqv, PyData.eqvAll]
/-- what stands behind an opening is of those rows -/
def liveR (r : Row) : Bool := decide (0 < r.seen) || decide (0 < r.left)
theorem anew_fold : ∀ (rs : List Row) (a : List Evt × List Row × Int), ∃ es ss k, rs.foldl anewS a = (a.1 ++ es, a.2.1 ++ ss, k) ∧ (∀ P : Row → Prop, (∀ r ∈ rs, P r) → (∀ r s k, P r → P { r with seen := s, rank := k }) → ∀ r ∈ ss, P r) ∧
    (∀ (α : Type) (f : Row → α), (∀ r s k, f { r with seen := s, rank := k } = f r) → ss.map f = (rs.filter liveR).map f) ∧ es = (rs.filter fun r => decide (r.seen ≤ 0) && decide (0 < r.left)).map (fun r => .shown r.num (partM r.part r.left)) ∧ k = a.2.2 + (es.length : Nat)
  | [], a => ⟨[], [], a.2.2, by simp, fun P _ _ r h => (by cases h), fun α f _ => rfl, rfl, by simp⟩
  | r :: rs, a => by
    obtain ⟨es, ss, k, e, hP, hf, he, hk⟩ := anew_fold rs (anewS a r)
    rw [List.foldl_cons, e]
    have et : ∀ es' ss' k', anewS a r = (a.1 ++ es', a.2.1 ++ ss', k') → (a.1 ++ es' ++ es, a.2.1 ++ ss' ++ ss, k) = ((anewS a r).1 ++ es, (anewS a r).2.1 ++ ss, k) := fun es' ss' k' z => by rw [z]
    by_cases h1 : r.seen > 0
    · have ea : anewS a r = (a.1, a.2.1 ++ [r], a.2.2) := if_pos h1
      refine ⟨es, r :: ss, k, by rw [ea]; simp, fun P p1 p2 x hx => ?_, fun α f p => ?_, ?_, by rw [hk, ea]⟩
      · rcases List.mem_cons.mp hx with z | z
        · rw [z]; exact p1 r List.mem_cons_self
        · exact hP P (fun y hy => p1 y (List.mem_cons_of_mem _ hy)) p2 x z
      · have el : liveR r = true := by simp [liveR, h1]
        rw [List.filter_cons, if_pos el, List.map_cons, List.map_cons, hf α f p]
      · rw [List.filter_cons, if_neg (by simp; omega)]
        exact he
    · by_cases h2 : r.left > 0
      · have ea : anewS a r = (a.1 ++ [.shown r.num (partM r.part r.left)], a.2.1 ++ [{ r with seen := partM r.part r.left, rank := a.2.2 }], a.2.2 + 1) := by
          unfold anewS
          rw [if_neg h1, if_pos h2]
        refine ⟨.shown r.num (partM r.part r.left) :: es, { r with seen := partM r.part r.left, rank := a.2.2 } :: ss, k, by rw [ea]; simp, fun P p1 p2 x hx => ?_, fun α f p => ?_, ?_, ?_⟩
        · rcases List.mem_cons.mp hx with z | z
          · rw [z]; exact p2 _ _ _ (p1 r List.mem_cons_self)
          · exact hP P (fun y hy => p1 y (List.mem_cons_of_mem _ hy)) p2 x z
        · have el : liveR r = true := by simp [liveR, h2]
          rw [List.filter_cons, if_pos el, List.map_cons, List.map_cons, hf α f p, p]
        · rw [List.filter_cons, if_pos (by simp; omega), List.map_cons, he]
        · rw [hk, ea]
          simp only [List.length_cons]
          omega
      · have ea : anewS a r = a := by
          unfold anewS
          rw [if_neg h1, if_neg h2]
        refine ⟨es, ss, k, by rw [ea], fun P p1 p2 x hx => hP P (fun y hy => p1 y (List.mem_cons_of_mem _ hy)) p2 x hx, fun α f p => ?_, ?_, by rw [hk, ea]⟩
        · rw [List.filter_cons, if_neg (by simp [liveR]; omega)]
          exact hf α f p
        · rw [List.filter_cons, if_neg (by simp; omega)]
          exact he
theorem rankM_mem {rows : List Row} {r : Row} (hs : r.side = "buy" ∨ r.side = "sell") : r ∈ rankM rows ↔ r ∈ rows := by
  refine ⟨rankM_sub, fun h => ?_⟩
  unfold rankM sideM
  rw [List.mem_append]
  rcases hs with e | e
  · exact .inl (List.mem_mergeSort.mpr (List.mem_filter.mpr ⟨h, decide_eq_true e⟩))
  · exact .inr (List.mem_mergeSort.mpr (List.mem_filter.mpr ⟨h, decide_eq_true e⟩))
theorem open_txt {rows : List Row} {last rank : Int} (h : ∀ r ∈ rows, RowTxt r) : ∀ r ∈ (openM rows last rank).rows, RowTxt r := by
  unfold openM
  cases priceM (stepsM rows) last with
  | mk po v =>
  cases po with
  | none => exact fun r hr => h r (rankM_sub hr)
  | some p =>
    intro r hr
    have hr := rankM_sub hr
    have hb : ∀ r ∈ behindM rows (dealsM rows p), RowTxt r := fun x hx => by
      obtain ⟨y, hy, rfl⟩ := List.mem_map.mp hx
      exact h y (List.mem_mergeSort.mp hy)
    obtain ⟨es, ss, k, e, hP, _⟩ := anew_fold (behindM rows (dealsM rows p)) ([], [], rank)
    have e2 : (anewM (behindM rows (dealsM rows p)) rank).2.1 = ss := by unfold anewM; rw [e]; rfl
    rw [e2] at hr
    exact hP RowTxt hb (fun r s k h => h) r hr

end
section
variable [Tabz]
/-! ### the tapes: a cell, a seed -/
def Ta (H : Hp) (p : Addr) : Prop := ∃ cell seed : Int, H p = some (.lst [.int cell, .int seed]) ∧ 0 ≤ cell ∧ 0 ≤ seed ∧ seed < 2 ^ 40
instance famT : Fam where
  Tq := fun _ t H _ => ∀ a, t = .ref a → Ta H a
  Pq := fun _ t a => t = .ref a
  mv := fun g k a e => by
    obtain ⟨o, s, h, r⟩ := g a e
    exact ⟨o, s, k _ _ e h, r⟩
  ty := fun g e => by
    obtain ⟨o, s, h, r⟩ := g _ e
    exact ⟨_, h⟩
def spTape (K : PySem.W.Frag) : Sp := fun vs H Q _ => ∃ (a : Addr) (ns : List Int) (k : Int), vs = [.ref a, .int k] ∧ SqL K H a (ns.map V.int) ∧ ns.length ≤ 63 ∧ 0 ≤ k ∧ k < 64 ∧ ∀ p H', H p = none → Same H H' → Ta H' p → Q (.ref p) H'
def spDigit : Sp := fun vs H Q _ => ∃ (p : Addr) (many : Int), vs = [.ref p, .int many] ∧ Ta H p ∧ 1 ≤ many ∧ many < 2 ^ 300 ∧
  ∀ r H', 0 ≤ r → r < many → Ta H' p → Keep p H H' → Q (.int r) H'
section
variable {P : Program} {w : World} {K : PySem.W.Frag} {mg : Str → Option Value} {base : Heap}
abbrev s_law_tape : Stmt := topS 7
theorem sc_law_tape : FnScope ["script", "start", "cell"] ["script", "start"] (defScope s_law_tape) := ⟨rfl, rfl, rfl, by decide +kernel, rfl, by decide +kernel, by decide +kernel⟩
theorem ok_tape {f : Addr} {fd : FuncData} (F : Fun K "_law_tape" "_law_tape" s_law_tape f fd) (T : Txt mg) : FnOk P w K mg base CX0 1 f fd ["script", "start"] (spTape K) := by
  refine F.ok sc_law_tape (fun vs H Q E h => ?_) (fun cdv A outer s H vs Q E hr h => ?_)
  · obtain ⟨a, ns, k, rfl, _⟩ := h
    rfl
  · obtain ⟨a, ns, k, rfl, hS, hlen, hk0, hk1, q⟩ := h
    refine ⟨_, (pss_cons (ps_set (i := 2) sc_law_tape.nd rfl (Or.inl rfl) pe_int)
          (pss_cons (ps_if (pt_cmpR op_lt (pv 1) (pe_callB call_len_seq (by rfl) T.b_len PySem.boot_len (pa_cons (pv 0) pa_nil)) (nomark _)) (pss_one (ps_set (i := 2) sc_law_tape.nd rfl (Or.inl rfl) (pe_callB call_abs (by rfl) T.b_abs (by decide +kernel) (pa_cons (pe_ix (r := rIxL K) ix_list (pv 0) (pv 1) (fun _ _ => rfl)) pa_nil)))) pss_nil)
          (pss_one (ps_ret (pe_lst (pa_cons (pv 2) (pa_cons (pe_op op_add (pe_op op_mod (pe_op op_add (pe_op op_mul (pv 1) pe_int) (pv 2)) pe_int) pe_int) pa_nil))))))), ?_⟩
    have fin : ∀ cell : Int, 0 ≤ cell → ∀ p, H p = none → Q (.ref p) (upd H p (.lst [.int cell, .int ((k * 7919 + cell) % 998244353 + 1)])) := fun cell ho p np =>
      q p _ np (Same.new np) ⟨cell, _, upd_same, ho, by omega, by omega⟩
    refine ⟨_, rfl, _, rfl, _, _, rfl, .inl hS, _, _, rfl, rfl, _, rfl, ite2 (fun c => ?_) (fun c => ?_)⟩
    · have c1 : k < (ns.length : Int) := by
        have c2 := of_decide_eq_true c
        rw [List.length_map] at c2
        exact c2
      have c3 : (ns.map V.int)[k.toNat]? = some (V.int (ns.getD k.toNat 0)) := by
        have c4 : k.toNat < ns.length := by omega
        rw [List.getElem?_map, List.getElem?_eq_getElem c4, List.getD_eq_getElem?_getD, List.getElem?_eq_getElem c4]
        rfl
      have c5 : atI (ns.map V.int) k = some (V.int (ns.getD k.toNat 0)) := by
        have c6 := atI_nat c3
        rw [Int.toNat_of_nonneg hk0] at c6
        exact c6
      refine ⟨_, rfl, _, rfl, a, _, _, _, rfl, rfl, hS, c5, _, rfl, ?_⟩
      refine ⟨_, rfl, _, rfl, _, _, rfl, rfl, .inl ⟨by omega, by omega⟩, _, rfl, _, _, rfl, rfl, _, _, rfl, rfl, (by show (0 : Int) < 998244353; decide), _, _, rfl, rfl, (by show 2 ≤ sizeLine; decide), fun p np => fin _ (by split <;> omega) p np⟩
    · refine ⟨_, rfl, _, rfl, _, _, rfl, rfl, .inl ⟨by omega, by omega⟩, _, rfl, _, _, rfl, rfl, _, _, rfl, rfl, (by show (0 : Int) < 998244353; decide), _, _, rfl, rfl, (by show 2 ≤ sizeLine; decide), fun p np => fin _ (by decide) p np⟩
abbrev s_law_digit : Stmt := topS 8
theorem sc_law_digit : FnScope ["tape", "many", "found", "more"] ["tape", "many"] (defScope s_law_digit) := ⟨rfl, rfl, rfl, by decide +kernel, rfl, by decide +kernel, by decide +kernel⟩
theorem ok_digit {f : Addr} {fd : FuncData} (F : Fun K "_law_digit" "_law_digit" s_law_digit f fd) : FnOk P w K mg base CX0 1 f fd ["tape", "many"] spDigit := by
  refine F.ok sc_law_digit (fun vs H Q E h => ?_) (fun cdv A outer s H vs Q E hr h => ?_)
  · obtain ⟨p, many, rfl, _⟩ := h
    rfl
  · obtain ⟨p, many, rfl, ⟨cell, seed, hp, h1, h2, h3⟩, hm1, hm2, k⟩ := h
    have m0 : (0 : Int) < many := by omega
    have mw : CDivW cell many := wide_div m0 (b := 300) (by omega) (by decide) (by decide)
    refine ⟨_, (pss_cons (ps_if (pt_cmpR op_gt (pe_ix (r := rIxL K) ix_list (pv 0) pe_int (fun _ _ => rfl)) pe_int (nomark _)) (pss_cons (ps_set (i := 2) sc_law_digit.nd rfl (Or.inl rfl) (pe_op op_mod (pe_ix (r := rIxL K) ix_list (pv 0) pe_int (fun _ _ => rfl)) (pv 1)))
            (pss_cons (ps_asg (pe_op op_fdivW (pe_ix (r := rIxL K) ix_list (pv 0) pe_int (fun _ _ => rfl)) (pv 1)) (pg_sub (pv 0) pe_int set_list))
            (pss_one (ps_ret (pv 2))))) pss_nil)
          (pss_cons (ps_asg (pe_op op_mod (pe_op op_add (pe_op op_mul (pe_ix (r := rIxL K) ix_list (pv 0) pe_int (fun _ _ => rfl)) pe_int) pe_int) pe_int) (pg_sub (pv 0) pe_int set_list))
          (pss_cons (ps_set (i := 3) sc_law_digit.nd rfl (Or.inl rfl) (pe_op op_mod (pe_op op_mul (pe_ix (r := rIxL K) ix_list (pv 0) pe_int (fun _ _ => rfl)) pe_int) pe_int))
          (pss_one (ps_ret (pe_op op_mod (pe_op op_add (pe_op op_mul (pe_op op_mod (pe_op op_mul (pe_ix (r := rIxL K) ix_list (pv 0) pe_int (fun _ _ => rfl)) (pe_ix (r := rIxL K) ix_list (pv 0) pe_int (fun _ _ => rfl))) pe_int) pe_int) (pv 3)) (pv 1))))))), ?_⟩
    refine ⟨_, rfl, p, _, _, _, rfl, rfl, SqL.of hp, rfl, _, _, rfl, rfl, _, rfl, ite2 (fun c => ?_) (fun c => ?_)⟩
    · refine ⟨_, rfl, p, _, _, _, rfl, rfl, SqL.of hp, rfl, _, rfl, _, _, rfl, rfl, m0, ?_⟩
      refine ⟨_, rfl, p, _, _, _, rfl, rfl, SqL.of hp, rfl, _, rfl, _, _, rfl, rfl, mw, _, rfl, p, _, _, 0, rfl, rfl, hp, rfl, ?_⟩
      refine ⟨_, rfl, ?_⟩
      exact k _ _ (Int.emod_nonneg _ (by omega)) (Int.emod_lt_of_pos _ m0) ⟨cell / many, seed, upd_same, Int.ediv_nonneg h1 (by omega), h2, h3⟩ (fun b o nb hb => by rw [upd_ne nb]; exact hb)
    · refine ⟨_, rfl, p, _, _, _, rfl, rfl, SqL.of hp, rfl, _, _, rfl, rfl, .inl ⟨by omega, by omega⟩, _, _, rfl, rfl, _, _, rfl, rfl, (by show (0 : Int) < 2147483647; decide), _, rfl, p, _, _, 1, rfl, rfl, hp, rfl, ?_⟩
      obtain ⟨s1, es⟩ : ∃ s1, s1 = (seed * 48271 + 11) % 2147483647 := ⟨_, rfl⟩
      have s10 : 0 ≤ s1 ∧ s1 < 2147483647 := by omega
      obtain ⟨H1, e1⟩ : ∃ H1, H1 = upd H p (.lst [.int cell, .int s1]) := ⟨_, rfl⟩
      have p1 : H1 p = some (.lst [.int cell, .int s1]) := by rw [e1]; exact upd_same
      have k1 : Keep p H H1 := fun b o nb hb => by rw [e1, upd_ne nb]; exact hb
      show tSeq _ _ _ _ (upd H p (.lst [.int cell, .int ((seed * 48271 + 11) % 2147483647)]))
      rw [← es, ← e1]
      clear e1 es
      refine ⟨_, rfl, p, _, _, _, rfl, rfl, SqL.of p1, rfl, _, _, rfl, rfl, .inl ⟨by omega, by omega⟩, _, _, rfl, rfl, (by show (0 : Int) < 2147483399; decide), ?_⟩
      refine ⟨_, rfl, p, _, _, _, rfl, rfl, SqL.of p1, rfl, _, rfl, p, _, _, _, rfl, rfl, SqL.of p1, rfl, _, _, rfl, rfl, .inl ⟨by omega, by omega⟩, _, _, rfl, rfl, (by show (0 : Int) < 2147483629; decide), _, _, rfl, rfl, .inl ⟨?_, ?_⟩, _, rfl, _, _, rfl, rfl, _, rfl, _, _, rfl, rfl, m0, ?_⟩
      · have := Int.emod_nonneg (s1 * s1) (show (2147483629 : Int) ≠ 0 by decide)
        show -(2 ^ 64) < s1 * s1 % 2147483629
        omega
      · have := Int.emod_lt_of_pos (s1 * s1) (show (0 : Int) < 2147483629 by decide)
        show s1 * s1 % 2147483629 < 2 ^ 64
        omega
      · exact k _ _ (Int.emod_nonneg _ (by omega)) (Int.emod_lt_of_pos _ m0) ⟨cell, s1, p1, h1, s10.1, by omega⟩ k1
end

local macro_rules | `(tactic| walk_at "d") => `(tactic| first | refine Or.inl ⟨_, rfl, ?_⟩ | refine Or.inr ⟨rfl, ?_⟩ | refine ⟨Nat.le_of_ble_eq_true rfl, ?_⟩ | refine ⟨⟨_, rfl⟩, ?_⟩ | refine ⟨_, rfl, ?_⟩ | refine ⟨_, _, rfl, ?_⟩ | refine ⟨_, _, _, rfl, ?_⟩ | refine ⟨_, _, _, _, rfl, ?_⟩)
/-! ### a tape's digits by data readings -/
def mDigit : DM := fun rs n Q => ∃ many : Int, rs = [.tape, .d (.int many)] ∧ Cnd (1 ≤ many ∧ many < 2 ^ 300) ∧ ∀ r, 0 ≤ r → r < many → Q (.d (.int r)) n
theorem L_digit : ∀ rs n Q, mDigit rs n Q → plainR rs ∧ rs.length = 2 := by
  rintro rs n Q ⟨m, rfl, h⟩
  exact tapeR (ds := [_]) rfl
theorem keep_fr {c : EC} {n m : Int} {H H' : Hp} {a : Addr} (g : c.G n H) (e : c.t = .ref a) (k : Keep a H H') (u : Ta H' a) : Fr c m H H' := by
  obtain ⟨o, s, hx, _⟩ := g.1 a e
  refine ⟨fun b o p _ h => k b o (fun z => p (by rw [z]; exact e)) h, fun a' e' => ?_, Tabs_mv g.2 fun b o l _ h => k b o (fun z => ?_) h⟩
  · rw [e] at e'
    cases e'
    exact u
  · rw [z, hx] at h
    cases h
    exact l _ rfl
theorem ok_digitD {P : Program} {w : World} {K : PySem.W.Frag} {mg : Str → Option Value} {base : Heap} {f : Addr} {fd : FuncData} (F : Fun K "_law_digit" "_law_digit" s_law_digit f fd) : FnOk P w K mg base CX0 1 f fd ["tape", "many"] (spD mDigit) := by
  refine (ok_digit F).imp fun vs H Q E ⟨c, n, rs, Q', h0, g, pn, ok, ⟨many, e, cc, hq⟩, kk⟩ => ?_
  subst e
  obtain ⟨hm0, hm1⟩ := cc.get
  cases ok with
  | cons h1 _ t => cases t with
    | cons h2 _ t =>
      cases t
      cases h2
      obtain ⟨e1, a, e2⟩ := h1
      rw [e1, e2]
      exact ⟨a, many, rfl, g.1 a e2, hm0, hm1, fun r H' r0 r1 u k => kk _ _ _ _ (hq r r0 r1) (keep_fr g e2 k u) (Rp.int r)⟩

/-! ### a drawn order: the numbers below many, each once -/
theorem erase_map {α β : Type} (f : α → β) : ∀ (l : List α) (i : Nat), (l.map f).eraseIdx i = (l.eraseIdx i).map f
  | [], _ => rfl
  | _ :: _, 0 => rfl
  | a :: l, i + 1 => by
    show f a :: (l.map f).eraseIdx i = f a :: (l.eraseIdx i).map f
    rw [erase_map f l i]
theorem erase_perm {α : Type} : ∀ (l : List α) (i : Nat) (h : i < l.length), (l[i] :: l.eraseIdx i).Perm l
  | a :: l, 0, _ => .refl _
  | a :: l, i + 1, h => (List.Perm.swap a (l[i]'(Nat.lt_of_succ_lt_succ h)) (l.eraseIdx i)).trans ((erase_perm l i (Nat.lt_of_succ_lt_succ h)).cons a)
theorem seq_ix {x n : Nat} (h : x < n) : seqIndex? (x : Int) n = some x := by
  have h0 : ¬ (x : Int) < 0 := by omega
  have h1 : (decide (0 ≤ (x : Int)) && decide ((x : Int) < (n : Int))) = true := by
    rw [decide_eq_true (show 0 ≤ (x : Int) by omega), decide_eq_true (show (x : Int) < (n : Int) by omega)]
    rfl
  unfold seqIndex?
  simp only [if_neg h0, if_pos h1]
  rfl
def rLenK (K : PySem.W.Frag) : List V → Hp → VK → Prop := fun xs H Q => ∃ p ys, xs = [V.ref p] ∧ (SqL K H p ys ∨ SqT K H p ys) ∧ Q (V.int ys.length) H
def spOrder : Sp := fun vs H Q _ => ∃ (p : Addr) (many : Int), vs = [.ref p, .int many] ∧ Ta H p ∧ 1 ≤ many ∧ many < 1000 ∧
  ∀ (q : Addr) (out : List Nat) H', H q = none → H' q = some (.lst (out.map fun k => V.int (k : Nat))) → out.Perm (List.range many.toNat) → Ta H' p → Keep p H H' → Q (.ref q) H'
section
variable {P : Program} {w : World} {K : PySem.W.Frag} {mg : Str → Option Value} {base : Heap}
abbrev s_law_drawn_order : Stmt := topS 9
theorem sc_law_drawn_order : FnScope ["tape", "many", "left", "k"] ["tape", "many"] (defScope s_law_drawn_order) := ⟨rfl, rfl, rfl, by decide +kernel, rfl, by decide +kernel, by decide +kernel⟩
theorem ok_order {f : Addr} {fd : FuncData} (F : Fun K "_law_drawn_order" "_law_drawn_order" s_law_drawn_order f fd) (T : Txt mg) (c_digit : Cal P w K mg base 1 "_law_digit" ["tape", "many"] spDigit) : FnOk P w K mg base CX0 2 f fd ["tape", "many"] spOrder := by
  refine F.ok sc_law_drawn_order (fun vs H Q E h => ?_) (fun cdv A outer s H vs Q E hr h => ?_)
  · obtain ⟨p, many, rfl, _⟩ := h
    rfl
  · obtain ⟨p, many, rfl, hp, hm1, hm2, k⟩ := h
    obtain ⟨f_digit, fd_digit, G_digit, m_digit, k_digit, b_digit⟩ := c_digit
    refine ⟨_, (pss_cons (ps_set (i := 2) sc_law_drawn_order.nd rfl (Or.inr rfl) (pe_listRg rfl rfl T.b_list (prg_1 rfl T.b_range (pv 1))))
          (pss_one (ps_ret (pe_lc (own := [("k", 3)]) (g := gName 3) (tt := tYes) rfl sc_law_drawn_order.nd (pi_range1 rfl T.b_range (pa_cons (pv 1) pa_nil)) (blkOk_by (N := ["tape", "many", "left", "k"]) (sc := defScope s_law_drawn_order) (by decide +kernel)) (fun _ _ _ _ _ => (pg_name (i := 3) sc_law_drawn_order.nd rfl (Or.inl rfl))) (fun _ _ _ _ _ => pts_nil) (fun _ _ _ _ _ => (show PE _ _ (tBM K "list" rPopAt (tVar 2) _) from pe_bm PySem.F.plainAttrs_list PySem.F.slot_list_pop PySem.F.type_list_pop mt_popAt (pv 2) (pa_cons (pe_call G_digit (hr.mono (by decide)) rfl m_digit k_digit b_digit .nil pass0 (pa_cons (pv 0) (pa_cons (pe_callB (r := rLenK K) call_len_seq (by rfl) T.b_len PySem.boot_len (pa_cons (pv 2) pa_nil)) pa_nil))) pa_nil))))))), ?_⟩
    refine ⟨_, rfl, _, rfl, ⟨by omega, by omega, by omega, by omega, by omega⟩, fun q nq => ?_⟩
    have er : rgV 0 many = (List.range many.toNat).map fun k => V.int (k : Nat) := by
      unfold rgV
      rw [Int.sub_zero]
      exact List.map_congr_left fun k _ => by rw [Int.zero_add]
    rw [er]
    have pq : p ≠ q := by
      obtain ⟨_, _, e, _⟩ := hp
      exact ne_of_none e nq
    have hp1 : Ta (upd H q (.lst ((List.range many.toNat).map fun k => V.int (k : Nat)))) p := by
      obtain ⟨o1, o2, e, r⟩ := hp
      exact ⟨o1, o2, by rw [upd_ne pq]; exact e, r⟩
    refine ⟨_, rfl, _, rfl, by omega, by omega, fun D nD => ?_⟩
    have qD : q ≠ D := ne_of_none upd_same nD
    have pD : p ≠ D := by
      obtain ⟨_, _, e, _⟩ := hp1
      exact ne_of_none e nD
    have hD0 : H D = none := by rw [upd_ne qD.symm] at nD; exact nD
    refine lc_range (lo := 0) (fun j g => ∃ rest got : List Nat, g q = some (.lst (rest.map fun k => V.int (k : Nat))) ∧ g D = some (.lst (got.map fun k => V.int (k : Nat))) ∧ (got ++ rest).Perm (List.range many.toNat) ∧ got.length = j ∧ Ta g p ∧ ∀ b o, b ≠ p → H b = some o → g b = some o)
      ⟨List.range many.toNat, [], by rw [upd_ne qD]; exact upd_same, upd_same, .refl _, rfl, by obtain ⟨o1, o2, e, r⟩ := hp1; exact ⟨o1, o2, by rw [upd_ne pD]; exact e, r⟩, fun b o nb e => by rw [upd_ne (ne_of_none e hD0), upd_ne (ne_of_none e nq)]; exact e⟩ ?_ ?_
    · rintro j g hj ⟨rest, got, hq, hD, hP, hl, hT, hk⟩
      have hlen := hP.length_eq
      rw [List.length_append, List.length_range] at hlen
      refine ⟨rfl, yesC ?_⟩
      refine ⟨_, rfl, .inl ⟨rfl, _, SqL.of hq⟩, _, rfl, _, rfl, q, _, rfl, .inl (SqL.of hq), p, _, rfl, hT, ?_, ?_, fun r g2 r0 r1 T2 k2 => ?_⟩
      · rw [List.length_map]; omega
      · rw [List.length_map]
        exact Int.lt_trans (show (rest.length : Int) < 2 ^ 30 by omega) (by decide)
      rw [List.length_map] at r1
      have hq2 := k2 _ _ pq.symm hq
      have hD2 := k2 _ _ pD.symm hD
      obtain ⟨x, rfl⟩ := Int.eq_ofNat_of_zero_le r0
      have hx : x < rest.length := by omega
      refine ⟨q, _, (x : Int), x, .int ((rest[x] : Nat) : Int), rfl, rfl, hq2, by omega, by omega, ?_, ?_, ?_⟩
      · rw [List.length_map]
        exact seq_ix hx
      · rw [List.getElem?_map, List.getElem?_eq_getElem hx]
        rfl
      have em : (rest.map fun k => V.int (k : Nat)).eraseIdx x = (rest.eraseIdx x).map fun k => V.int (k : Nat) := by
        exact erase_map _ _ _
      rw [em]
      refine ⟨_, by rw [upd_ne qD.symm]; exact hD2, by rw [List.length_map]; exact Nat.lt_of_lt_of_le (show got.length < 1000 by omega) (by decide), rest.eraseIdx x, got ++ [rest[x]], ?_, ?_, ?_, ?_, ?_, ?_⟩
      · rw [upd_ne qD]
        exact upd_same
      · rw [List.map_append]
        exact upd_same
      · refine List.Perm.trans ?_ hP
        rw [List.append_assoc]
        exact (erase_perm rest x hx).append_left got
      · rw [List.length_append, hl]
        rfl
      · obtain ⟨o1, o2, e, r⟩ := T2
        exact ⟨o1, o2, by rw [upd_ne pD, upd_ne pq]; exact e, r⟩
      · intro b o nb e
        rw [upd_ne (ne_of_none e hD0), upd_ne (ne_of_none e nq)]
        exact k2 _ _ nb (hk b o nb e)
    · rintro g ⟨rest, got, hq, hD, hP, hl, hT, hk⟩
      have hlen := hP.length_eq
      rw [List.length_append, List.length_range] at hlen
      have hr0 : rest = [] := List.eq_nil_of_length_eq_zero (by omega)
      rw [hr0, List.append_nil] at hP
      exact k D got g hD0 hD hP hT hk
end

end
section
variable [Tabz]
local macro_rules | `(tactic| walk_at "d") => `(tactic| first | refine Or.inl ⟨_, rfl, ?_⟩ | refine Or.inr ⟨rfl, ?_⟩ | refine ⟨Nat.le_of_ble_eq_true rfl, ?_⟩ | refine ⟨⟨_, rfl⟩, ?_⟩ | refine ⟨_, rfl, ?_⟩ | refine ⟨_, _, rfl, ?_⟩ | refine ⟨_, _, _, rfl, ?_⟩ | refine ⟨_, _, _, _, rfl, ?_⟩)
/-! ### rows drawn from a tape, by data readings -/
def mOrder : DM := fun rs n Q => ∃ many : Int, rs = [.tape, .d (.int many)] ∧ Cnd (1 ≤ many ∧ many < 1000) ∧ ∀ out : List Nat, out.Perm (List.range many.toNat) → Q (.own (out.map fun k => PyData.int (k : Nat))) n
theorem L_drawn_order : ∀ rs n Q, mOrder rs n Q → plainR rs ∧ rs.length = 2 := by
  rintro rs n Q ⟨m, rfl, h⟩
  exact tapeR (ds := [_]) rfl
theorem rp_nats {M : Hp} : ∀ ns : List Nat, RpA M (ns.map fun k => V.int (k : Nat)) (ns.map fun k => PyData.int (k : Nat))
  | [] => .nil
  | n :: ns => .cons (.int n) (rp_nats ns)
theorem ok_orderD {P : Program} {w : World} {K : PySem.W.Frag} {mg : Str → Option Value} {base : Heap} {f : Addr} {fd : FuncData} (F : Fun K "_law_drawn_order" "_law_drawn_order" s_law_drawn_order f fd) (T : Txt mg) (c_digit : Cal P w K mg base 1 "_law_digit" ["tape", "many"] spDigit) : FnOk P w K mg base CX0 2 f fd ["tape", "many"] (spD mOrder) := by
  refine (ok_order F T c_digit).imp fun vs H Q E ⟨c, n, rs, Q', h0, g, pn, ok, ⟨many, e, cc, hq⟩, kk⟩ => ?_
  subst e
  obtain ⟨hm0, hm1⟩ := cc.get
  cases ok with
  | cons h1 _ t => cases t with
    | cons h2 _ t =>
      cases t
      cases h2
      obtain ⟨e1, a, e2⟩ := h1
      rw [e1, e2]
      exact ⟨a, many, rfl, g.1 a e2, hm0, hm1, fun q out H' nq hl hp u k => kk _ _ _ _ (hq out hp) (keep_fr g e2 k u) ⟨q, _, rfl, .of nq, hl, rp_nats out⟩⟩
def RowT (base spread most : Int) (r : Row) : Prop := (1 ≤ r.left ∧ r.left ≤ most) ∧ (base ≤ r.price ∧ r.price < base + spread) ∧ (1 ≤ r.seen ∧ r.seen ≤ r.left) ∧ (r.part = none → r.seen = r.left) ∧ (∀ p, r.part = some p → (1 ≤ p ∧ p ≤ 10 ^ 9) ∧ r.left ≤ 20 * p ∧ r.seen ≤ p) ∧ PyData.strOk r.who = true ∧ (r.side = "buy" ∨ r.side = "sell")
def mRow : DM := fun rs n Q => ∃ (number stamp base spread most : Int), rs = [.tape, .d (.int number), .d (.int stamp), .d (.int base), .d (.int spread), .d (.int most)] ∧ Cnd ((1 ≤ spread ∧ spread < 2 ^ 100) ∧ (1 ≤ most ∧ most ≤ 10 ^ 9)) ∧
  ∀ r : Row, r.num = number → r.rank = stamp → Cnd (RowT base spread most r) → Q (.d r.dat) n
theorem L_row : ∀ rs n Q, mRow rs n Q → plainR rs ∧ rs.length = 6 := by
  rintro rs n Q ⟨_, _, _, _, _, rfl, h⟩
  exact tapeR (ds := [_, _, _, _, _]) rfl
section
variable {P : Program} {w : World} {K : PySem.W.Frag} {mg : Str → Option Value} {base : Heap}
abbrev s_law_row : Stmt := topS 10
theorem sc_law_row : FnScope ["tape", "number", "stamp", "base", "spread", "most", "owner", "side", "price", "left", "shown", "seen"] ["tape", "number", "stamp", "base", "spread", "most"] (defScope s_law_row) := ⟨rfl, rfl, rfl, by decide +kernel, rfl, by decide +kernel, by decide +kernel⟩
theorem ok_row {f : Addr} {fd : FuncData} (F : Fun K "_law_row" "_law_row" s_law_row f fd) (T : Txt mg) (c_digit : Cal P w K mg base 1 "_law_digit" ["tape", "many"] (spD mDigit)) : FnOk P w K mg base CX0 2 f fd ["tape", "number", "stamp", "base", "spread", "most"] (spD mRow) := by
  apply okD F sc_law_row L_row
  case body =>
    intro cdv A outer s H E hr
    obtain ⟨f_digit, fd_digit, G_digit, m_digit, k_digit, b_digit⟩ := c_digit
    exact (psCons (psSet (i := 6) sc_law_row.nd rfl (Or.inl rfl) (pdIx r2IxL ix_list (pdLst (paCons (pdC pe_str) (paCons (pdC pe_str) (paCons (pdC pe_str) (paCons (pdC pe_str) paNil))))) (pdCall (fun _ _ _ q => (L_digit _ _ _ q).1) G_digit (hr.mono (by decide)) (by rfl) m_digit k_digit b_digit pass0 (paCons (pdV (pv 0)) (paCons (pdC pe_int) paNil))) (fun _ _ => rfl)))
          (psCons (psSet (i := 7) sc_law_row.nd rfl (Or.inl rfl) (pdIx r2IxL ix_list (pdLst (paCons (pdC pe_str) (paCons (pdC pe_str) paNil))) (pdCall (fun _ _ _ q => (L_digit _ _ _ q).1) G_digit (hr.mono (by decide)) (by rfl) m_digit k_digit b_digit pass0 (paCons (pdV (pv 0)) (paCons (pdC pe_int) paNil))) (fun _ _ => rfl)))
          (psCons (psSet (i := 8) sc_law_row.nd rfl (Or.inl rfl) (pdOp r2Add op_add (pdV (pv 3)) (pdCall (fun _ _ _ q => (L_digit _ _ _ q).1) G_digit (hr.mono (by decide)) (by rfl) m_digit k_digit b_digit pass0 (paCons (pdV (pv 0)) (paCons (pdV (pv 4)) paNil)))))
          (psCons (psSet (i := 9) sc_law_row.nd rfl (Or.inl rfl) (pdOp r2Add op_add (pdC pe_int) (pdCall (fun _ _ _ q => (L_digit _ _ _ q).1) G_digit (hr.mono (by decide)) (by rfl) m_digit k_digit b_digit pass0 (paCons (pdV (pv 0)) (paCons (pdV (pv 5)) paNil)))))
          (psCons (psPar (ps_par (i := 10) (j := 11) (by rfl) sc_law_row.nd rfl rfl (by decide) rfl rfl (paCons (pdC pe_non) (paCons (pdV (pv 9)) paNil)) (by rfl)))
          (psCons (psIf (ptCmp r2Eq op_eq (pdCall (fun _ _ _ q => (L_digit _ _ _ q).1) G_digit (hr.mono (by decide)) (by rfl) m_digit k_digit b_digit pass0 (paCons (pdV (pv 0)) (paCons (pdC pe_int) paNil))) (pdC pe_int) (nomark _)) (psCons (psSet (i := 10) sc_law_row.nd rfl (Or.inl rfl) (pdB rs2I (call_min2 rfl) (by rfl) T.b_min (by decide +kernel) (paCons (pdOp r2Pow op_pow (pdC pe_int) (pdC pe_int)) (paCons (pdOp r2Add op_add (pdOp r2Div op_fdivW (pdOp r2Add op_add (pdV (pv 9)) (pdC pe_int)) (pdC pe_int)) (pdCall (fun _ _ _ q => (L_digit _ _ _ q).1) G_digit (hr.mono (by decide)) (by rfl) m_digit k_digit b_digit pass0 (paCons (pdV (pv 0)) (paCons (pdV (pv 5)) paNil)))) paNil))))
            (psOne (psSet (i := 11) sc_law_row.nd rfl (Or.inl rfl) (pdOp r2Add op_add (pdC pe_int) (pdCall (fun _ _ _ q => (L_digit _ _ _ q).1) G_digit (hr.mono (by decide)) (by rfl) m_digit k_digit b_digit pass0 (paCons (pdV (pv 0)) (paCons (pdB rs2I (call_min2 rfl) (by rfl) T.b_min (by decide +kernel) (paCons (pdV (pv 10)) (paCons (pdV (pv 9)) paNil))) paNil))))))) psNil)
          (psOne (psRet (pdTup (paCons (pdV (pv 1)) (paCons (pdV (pv 6)) (paCons (pdV (pv 7)) (paCons (pdV (pv 8)) (paCons (pdV (pv 10)) (paCons (pdV (pv 9)) (paCons (pdV (pv 11)) (paCons (pdV (pv 2)) paNil)))))))))))))))))
  case data =>
    rintro rs n Q ⟨number, stamp, base, spread, most, rfl, cc, h⟩
    obtain ⟨⟨hs0, hs1⟩, hm0, hm1⟩ := cc.get
    repeat walk_at "d"
    refine ⟨cnd ⟨by decide, by decide⟩, fun d1 d1a d1b => ?_⟩
    obtain ⟨ow, eow, how⟩ : ∃ ow : Str, opIxL (.list [.str "ann", .str "bob", .str "cat", .str "dan"]) (.int d1) = some (.d (.str ow)) ∧ PyData.strOk ow = true := by
      rcases ix4 (a := .str "ann") (b := .str "bob") (c := .str "cat") (d := .str "dan") d1a d1b with e | e | e | e <;> exact ⟨_, e, by decide +kernel⟩
    repeat walk_at "d"
    refine ⟨_, eow, ?_⟩
    repeat walk_at "d"
    refine ⟨cnd ⟨by decide, by decide⟩, fun d2 d2a d2b => ?_⟩
    obtain ⟨sd, esd, hsd⟩ : ∃ sd : Str, opIxL (.list [.str "buy", .str "sell"]) (.int d2) = some (.d (.str sd)) ∧ (sd = "buy" ∨ sd = "sell") := by
      rcases ix2 (a := .str "buy") (b := .str "sell") d2a d2b with e | e
      · exact ⟨_, e, .inl rfl⟩
      · exact ⟨_, e, .inr rfl⟩
    repeat walk_at "d"
    refine ⟨_, esd, ?_⟩
    repeat walk_at "d"
    refine ⟨cnd ⟨hs0, Int.lt_trans hs1 (by decide)⟩, fun d3 d3a d3b => ?_⟩
    repeat walk_at "d"
    refine ⟨cnd ⟨hm0, Int.lt_of_le_of_lt hm1 (by decide)⟩, fun d4 d4a d4b => ?_⟩
    repeat walk_at "d"
    refine ⟨cnd ⟨by decide, by decide⟩, fun d5 d5a d5b => ?_⟩
    repeat walk_at "d"
    refine ite2 (fun q => ?_) (fun q => ?_)
    · repeat walk_at "d"
      refine ⟨cnd ⟨hm0, Int.lt_of_le_of_lt hm1 (by decide)⟩, fun d6 d6a d6b => ?_⟩
      repeat walk_at "d"
      have e9 : (10 : Int) ^ (9 : Int).toNat = 10 ^ 9 := rfl
      have hP : (1 ≤ (if (1 + d4 + 19) / 20 + d6 < 10 ^ (9 : Int).toNat then (1 + d4 + 19) / 20 + d6 else 10 ^ (9 : Int).toNat) ∧ (if (1 + d4 + 19) / 20 + d6 < 10 ^ (9 : Int).toNat then (1 + d4 + 19) / 20 + d6 else 10 ^ (9 : Int).toNat) ≤ 10 ^ 9) ∧ 1 + d4 ≤ 20 * (if (1 + d4 + 19) / 20 + d6 < 10 ^ (9 : Int).toNat then (1 + d4 + 19) / 20 + d6 else 10 ^ (9 : Int).toNat) := by
        rw [e9]
        split <;> omega
      have hM : 1 ≤ (if 1 + d4 < (if (1 + d4 + 19) / 20 + d6 < 10 ^ (9 : Int).toNat then (1 + d4 + 19) / 20 + d6 else 10 ^ (9 : Int).toNat) then 1 + d4 else (if (1 + d4 + 19) / 20 + d6 < 10 ^ (9 : Int).toNat then (1 + d4 + 19) / 20 + d6 else 10 ^ (9 : Int).toNat)) ∧ (if 1 + d4 < (if (1 + d4 + 19) / 20 + d6 < 10 ^ (9 : Int).toNat then (1 + d4 + 19) / 20 + d6 else 10 ^ (9 : Int).toNat) then 1 + d4 else (if (1 + d4 + 19) / 20 + d6 < 10 ^ (9 : Int).toNat then (1 + d4 + 19) / 20 + d6 else 10 ^ (9 : Int).toNat)) < 2 ^ 40 := by
        generalize (if (1 + d4 + 19) / 20 + d6 < 10 ^ (9 : Int).toNat then (1 + d4 + 19) / 20 + d6 else 10 ^ (9 : Int).toNat) = p at hP
        split <;> omega
      refine ⟨cnd ⟨hM.1, Int.lt_trans hM.2 (by decide)⟩, fun d7 d7a d7b => ?_⟩
      have d7b : d7 < (if 1 + d4 < (if (1 + d4 + 19) / 20 + d6 < 10 ^ (9 : Int).toNat then (1 + d4 + 19) / 20 + d6 else 10 ^ (9 : Int).toNat) then 1 + d4 else (if (1 + d4 + 19) / 20 + d6 < 10 ^ (9 : Int).toNat then (1 + d4 + 19) / 20 + d6 else 10 ^ (9 : Int).toNat)) := d7b
      repeat walk_at "d"
      have hS : 1 + d7 ≤ 1 + d4 ∧ 1 + d7 ≤ (if (1 + d4 + 19) / 20 + d6 < 10 ^ (9 : Int).toNat then (1 + d4 + 19) / 20 + d6 else 10 ^ (9 : Int).toNat) := by
        generalize (if (1 + d4 + 19) / 20 + d6 < 10 ^ (9 : Int).toNat then (1 + d4 + 19) / 20 + d6 else 10 ^ (9 : Int).toNat) = p at hP d7b
        revert d7b
        split <;> intro d7b <;> omega
      exact h ⟨number, ow, sd, base + d3, some (if (1 + d4 + 19) / 20 + d6 < 10 ^ (9 : Int).toNat then (1 + d4 + 19) / 20 + d6 else 10 ^ (9 : Int).toNat), 1 + d4, 1 + d7, stamp⟩ rfl rfl (cnd ⟨⟨by show 1 ≤ 1 + d4; omega, by show 1 + d4 ≤ most; omega⟩, ⟨by show base ≤ base + d3; omega, by show base + d3 < base + spread; omega⟩, ⟨by show 1 ≤ 1 + d7; omega, hS.1⟩, fun e => (by cases e), fun p e => (by cases e; exact ⟨hP.1, hP.2, hS.2⟩), how, hsd⟩)
    · repeat walk_at "d"
      exact h ⟨number, ow, sd, base + d3, none, 1 + d4, 1 + d4, stamp⟩ rfl rfl (cnd ⟨⟨by show 1 ≤ 1 + d4; omega, by show 1 + d4 ≤ most; omega⟩, ⟨by show base ≤ base + d3; omega, by show base + d3 < base + spread; omega⟩, ⟨by show 1 ≤ 1 + d4; omega, Int.le_refl _⟩, fun _ => rfl, fun p e => (by cases e), how, hsd⟩)
end
/-- drawn rows: numbers and stamps unlike, below those of the tape -/
structure RowsT (rows : List Row) (most : Int) : Prop where
  len : rows.length ≤ 100
  row : ∀ r ∈ rows, ∃ base spread m, (1 ≤ base ∧ base + spread ≤ 1000001) ∧ m ≤ 10 ^ 9 ∧ RowT base spread m r
  nums : (rows.map Row.num).Nodup ∧ ∀ r ∈ rows, 0 ≤ r.num ∧ r.num < most + 2
  ranks : (rows.map Row.rank).Nodup ∧ ∀ r ∈ rows, 0 ≤ r.rank ∧ r.rank < most + 3
def mRowsT : DM := fun rs n Q => ∃ (most : Int), rs = [.tape, .d (.int most)] ∧ Cnd (0 ≤ most ∧ most ≤ 100) ∧ ∀ rows : List Row, (rows.length : Int) ≤ most → RowsT rows most → Q (.own (rows.map Row.dat)) n
theorem L_rows : ∀ rs n Q, mRowsT rs n Q → plainR rs ∧ rs.length = 2 := by
  rintro rs n Q ⟨_, rfl, h⟩
  exact tapeR (ds := [_]) rfl
section
variable {P : Program} {w : World} {K : PySem.W.Frag} {mg : Str → Option Value} {base : Heap}
theorem dYes_okT {ρ : List DV} {n : Int} {Q : Bool → Int → Prop} (h : Q true n) : dYes ρ n Q := h
theorem ifTT {c : Prop} [Decidable c] {a b : Prop} (h : c) (k : a) : if c then a else b := by rw [if_pos h]; exact k
theorem ix_natO {o : List Nat} {k x : Nat} (h : o[k]? = some x) : opIxL (.list (o.map fun k => PyData.int (k : Nat))) (.int (k : Nat)) = some (.d (.int (x : Nat))) := by
  show (atI (o.map fun k => PyData.int (k : Nat)) (k : Int)).map DV.d = _
  rw [atI_nat (v := .int (x : Nat)) (by rw [List.getElem?_map, h]; rfl)]
  rfl
theorem order_take {o : List Nat} {m k : Nat} (h : o.Perm (List.range m)) : ((o.take k).map fun x => ((x : Nat) : Int)).Nodup ∧ ∀ z ∈ (o.take k).map fun x => ((x : Nat) : Int), 0 ≤ z ∧ z < m := by
  have nd : o.Nodup := h.nodup_iff.mpr List.nodup_range
  refine ⟨?_, fun z hz => ?_⟩
  · have h2 : (o.take k).Nodup := nd.sublist (List.take_sublist _ _)
    refine List.pairwise_map.mpr (h2.imp fun {a b} ne e => ne ?_)
    exact Int.ofNat.inj e
  · obtain ⟨x, hx, rfl⟩ := List.mem_map.mp hz
    have := List.mem_range.mp (h.mem_iff.mp (List.mem_of_mem_take hx))
    omega
abbrev s_law_rows : Stmt := topS 11
theorem sc_law_rows : FnScope ["tape", "most_rows", "many", "spread", "base", "most", "numbers", "stamps", "k"] ["tape", "most_rows"] (defScope s_law_rows) := ⟨rfl, rfl, rfl, by decide +kernel, rfl, by decide +kernel, by decide +kernel⟩
theorem ok_rows {f : Addr} {fd : FuncData} (F : Fun K "_law_rows" "_law_rows" s_law_rows f fd) (T : Txt mg) (c_digit : Cal P w K mg base 1 "_law_digit" ["tape", "many"] (spD mDigit)) (c_drawn_order : Cal P w K mg base 2 "_law_drawn_order" ["tape", "many"] (spD mOrder)) (c_row : Cal P w K mg base 2 "_law_row" ["tape", "number", "stamp", "base", "spread", "most"] (spD mRow)) : FnOk P w K mg base CX0 3 f fd ["tape", "most_rows"] (spD mRowsT) := by
  apply okD F sc_law_rows L_rows
  case body =>
    intro cdv A outer s H E hr
    obtain ⟨f_digit, fd_digit, G_digit, m_digit, k_digit, b_digit⟩ := c_digit
    obtain ⟨f_drawn_order, fd_drawn_order, G_drawn_order, m_drawn_order, k_drawn_order, b_drawn_order⟩ := c_drawn_order
    obtain ⟨f_row, fd_row, G_row, m_row, k_row, b_row⟩ := c_row
    exact (psCons (psSet (i := 2) sc_law_rows.nd rfl (Or.inl rfl) (pdCall (fun _ _ _ q => (L_digit _ _ _ q).1) G_digit (hr.mono (by decide)) (by rfl) m_digit k_digit b_digit pass0 (paCons (pdV (pv 0)) (paCons (pdOp r2Add op_add (pdV (pv 1)) (pdC pe_int)) paNil))))
          (psCons (psSet (i := 3) sc_law_rows.nd rfl (Or.inr rfl) (pdIx r2IxL ix_list (pdLst (paCons (pdC pe_int) (paCons (pdC pe_int) (paCons (pdC pe_int) (paCons (pdC pe_int) (paCons (pdC pe_int) (paCons (pdC pe_int) paNil))))))) (pdCall (fun _ _ _ q => (L_digit _ _ _ q).1) G_digit (hr.mono (by decide)) (by rfl) m_digit k_digit b_digit pass0 (paCons (pdV (pv 0)) (paCons (pdC pe_int) paNil))) (fun _ _ => rfl)))
          (psCons (psSet (i := 4) sc_law_rows.nd rfl (Or.inr rfl) (pdOp r2Add op_add (pdC pe_int) (pdCall (fun _ _ _ q => (L_digit _ _ _ q).1) G_digit (hr.mono (by decide)) (by rfl) m_digit k_digit b_digit pass0 (paCons (pdV (pv 0)) (paCons (pdOp r2Sub op_sub (pdC pe_int) (pdV (pv 3))) paNil)))))
          (psCons (psSet (i := 5) sc_law_rows.nd rfl (Or.inr rfl) (pdIx r2IxL ix_list (pdLst (paCons (pdC pe_int) (paCons (pdC pe_int) (paCons (pdC pe_int) (paCons (pdOp r2Pow op_pow (pdC pe_int) (pdC pe_int)) paNil))))) (pdCall (fun _ _ _ q => (L_digit _ _ _ q).1) G_digit (hr.mono (by decide)) (by rfl) m_digit k_digit b_digit pass0 (paCons (pdV (pv 0)) (paCons (pdC pe_int) paNil))) (fun _ _ => rfl)))
          (psCons (psAsg (pdTup (paCons (pdCall (fun _ _ _ q => (L_drawn_order _ _ _ q).1) G_drawn_order (hr.mono (by decide)) (by rfl) m_drawn_order k_drawn_order b_drawn_order pass0 (paCons (pdV (pv 0)) (paCons (pdOp r2Add op_add (pdV (pv 2)) (pdC pe_int)) paNil))) (paCons (pdCall (fun _ _ _ q => (L_drawn_order _ _ _ q).1) G_drawn_order (hr.mono (by decide)) (by rfl) m_drawn_order k_drawn_order b_drawn_order pass0 (paCons (pdV (pv 0)) (paCons (pdOp r2Add op_add (pdV (pv 2)) (pdC pe_int)) paNil))) paNil))) (pgTup (n := 2) rfl (pgCons (pgN (pg_name (i := 6) sc_law_rows.nd rfl (Or.inr rfl))) (pgCons (pgN (pg_name (i := 7) sc_law_rows.nd rfl (Or.inr rfl))) pgNil))))
          (psOne (psRet ((pe_lc (own := [("k", 8)]) (tt := tYes) rfl sc_law_rows.nd (piRng (pi_range1 (by rfl) T.b_range (paCons (pdV (pv 2)) paNil))) (blkOk_by (N := ["tape", "most_rows", "many", "spread", "base", "most", "numbers", "stamps", "k"]) (sc := defScope s_law_rows) (by decide +kernel)) (fun _ _ _ _ _ => (pgN (pg_name (i := 8) sc_law_rows.nd rfl (Or.inl rfl)))) (fun _ _ _ _ _ => pts_nil) (fun _ _ _ _ _ => (pdCall (fun _ _ _ q => (L_row _ _ _ q).1) G_row (hr.mono (by decide)) (by rfl) m_row k_row b_row pass0 (paCons (pdV (pv 0)) (paCons (pdIx r2IxL ix_list (pdV (pv 6)) (pdV (pv 8)) (fun _ _ => rfl)) (paCons (pdIx r2IxL ix_list (pdV (pv 7)) (pdV (pv 8)) (fun _ _ => rfl)) (paCons (pdV (pv 4)) (paCons (pdV (pv 3)) (paCons (pdV (pv 5)) paNil))))))))).imp (lc_le (by decide) yes_le)))))))))
  case data =>
    rintro rs n Q ⟨most, rfl, cc, h⟩
    obtain ⟨hm0, hm1⟩ := cc.get
    repeat walk_at "d"
    refine ⟨cnd ⟨by omega, Int.lt_of_le_of_lt (show most + 1 ≤ 101 by omega) (by decide)⟩, fun many ma mb => ?_⟩
    repeat walk_at "d"
    refine ⟨cnd ⟨by decide, by decide⟩, fun d1 d1a d1b => ?_⟩
    obtain ⟨sp, esp, hsp⟩ : ∃ sp : Int, opIxL (.list [.int 6, .int 3, .int 1, .int 30, .int 1000, .int 1000000]) (.int d1) = some (.d (.int sp)) ∧ 1 ≤ sp ∧ sp ≤ 1000000 := by
      have : d1 = 0 ∨ d1 = 1 ∨ d1 = 2 ∨ d1 = 3 ∨ d1 = 4 ∨ d1 = 5 := by omega
      rcases this with e | e | e | e | e | e <;> subst e <;> exact ⟨_, rfl, by decide, by decide⟩
    repeat walk_at "d"
    refine ⟨_, esp, ?_⟩
    repeat walk_at "d"
    refine ⟨cnd ⟨by omega, Int.lt_of_le_of_lt (show 1000001 - sp ≤ 1000000 by omega) (by decide)⟩, fun d2 d2a d2b => ?_⟩
    repeat walk_at "d"
    refine ⟨cnd ⟨by decide, by decide⟩, fun d3 d3a d3b => ?_⟩
    obtain ⟨mo, emo, hmo⟩ : ∃ mo : Int, opIxL (.list [.int 5, .int 3, .int 40, .int (10 ^ (9 : Int).toNat)]) (.int d3) = some (.d (.int mo)) ∧ 1 ≤ mo ∧ mo ≤ 10 ^ 9 := by
      rcases ix4 (a := .int 5) (b := .int 3) (c := .int 40) (d := .int (10 ^ (9 : Int).toNat)) d3a d3b with e | e | e | e <;> exact ⟨_, e, by decide, by decide⟩
    repeat walk_at "d"
    refine ⟨_, emo, ?_⟩
    repeat walk_at "d"
    refine ⟨cnd ⟨by omega, by omega⟩, fun o1 p1 => ?_⟩
    repeat walk_at "d"
    refine ⟨cnd ⟨by omega, by omega⟩, fun o2 p2 => ?_⟩
    repeat walk_at "d"
    have l1 := p1.length_eq
    have l2 := p2.length_eq
    rw [List.length_range] at l1 l2
    refine ⟨by omega, by omega, ?_⟩
    refine ⟨rfl, by rw [List.length_map, List.length_range]; omega, fun i acc m => m = n ∧ ∃ rows : List Row, acc = rows.map Row.dat ∧ rows.length = i ∧ (∀ r ∈ rows, RowT (1 + d2) sp mo r) ∧ rows.map Row.num = (o1.take i).map (fun x => ((x : Nat) : Int)) ∧ rows.map Row.rank = (o2.take i).map fun x => ((x : Nat) : Int), ⟨rfl, [], rfl, rfl, fun r hr => (by cases hr), rfl, rfl⟩, ?_, ?_⟩
    · rintro i d acc m hd ⟨rfl, rows, rfl, hlen, hT, hn, hk⟩
      have hi : i < many.toNat := by
        have := (List.getElem?_eq_some_iff.mp hd).1
        rwa [List.length_map, List.length_range] at this
      rw [List.getElem?_map, List.getElem?_range hi] at hd
      cases hd
      obtain ⟨x1, e1⟩ : ∃ x, o1[i]? = some x := ⟨_, List.getElem?_eq_getElem (by omega)⟩
      obtain ⟨x2, e2⟩ : ∃ x, o2[i]? = some x := ⟨_, List.getElem?_eq_getElem (by omega)⟩
      refine ⟨_, rfl, dYes_okT (ifTT rfl ?_)⟩
      repeat walk_at "d"
      refine ⟨_, ix_natO e1, ?_⟩
      repeat walk_at "d"
      refine ⟨_, ix_natO e2, ?_⟩
      repeat walk_at "d"
      refine ⟨(x1 : Int), (x2 : Int), 1 + d2, sp, mo, rfl, cnd ⟨⟨hsp.1, Int.lt_of_le_of_lt hsp.2 (by decide)⟩, hmo⟩, fun r hr1 hr2 hr3 => ?_⟩
      repeat walk_at "d"
      refine ⟨rfl, rows ++ [r], by rw [List.map_append]; rfl, by rw [List.length_append, hlen]; rfl, fun x hx => ?_, ?_, ?_⟩
      · rcases List.mem_append.mp hx with z | z
        · exact hT x z
        · rw [List.mem_singleton.mp z]; exact hr3.get
      · rw [List.map_append, hn, List.take_succ, e1, List.map_append]
        show _ ++ [r.num] = _ ++ [((x1 : Nat) : Int)]
        rw [hr1]
      · rw [List.map_append, hk, List.take_succ, e2, List.map_append]
        show _ ++ [r.rank] = _ ++ [((x2 : Nat) : Int)]
        rw [hr2]
    · rintro acc m ⟨rfl, rows, rfl, hlen, hT, hn, hk⟩
      rw [List.length_map, List.length_range] at hlen hn hk
      have q1 := order_take (k := many.toNat) p1
      have q2 := order_take (k := many.toNat) p2
      rw [← hn] at q1
      rw [← hk] at q2
      refine h rows (by omega) ⟨by omega, fun r hr => ⟨1 + d2, sp, mo, ⟨by omega, by omega⟩, hmo.2, hT r hr⟩, ⟨q1.1, fun r hr => ?_⟩, q2.1, fun r hr => ?_⟩
      · have := q1.2 r.num (List.mem_map.mpr ⟨r, hr, rfl⟩)
        omega
      · have := q2.2 r.rank (List.mem_map.mpr ⟨r, hr, rfl⟩)
        omega
end

end
section
variable [Tabz]
local macro_rules | `(tactic| walk_at "d") => `(tactic| first | refine Or.inl ⟨_, rfl, ?_⟩ | refine Or.inr ⟨rfl, ?_⟩ | refine ⟨Nat.le_of_ble_eq_true rfl, ?_⟩ | refine ⟨⟨_, rfl⟩, ?_⟩ | refine ⟨_, rfl, ?_⟩ | refine ⟨_, _, rfl, ?_⟩ | refine ⟨_, _, _, rfl, ?_⟩ | refine ⟨_, _, _, _, rfl, ?_⟩)
/-! ### a last price drawn -/
def RowL (r : Row) : Prop := RowTxt r ∧ 1 ≤ r.price ∧ r.price ≤ 1000000
theorem RowT.l {base spread m : Int} {r : Row} (h : RowT base spread m r) (hb : 1 ≤ base ∧ base + spread ≤ 1000001) : RowL r := by
  obtain ⟨h1, h2, h3, h4, h5, h6, h7⟩ := h
  exact ⟨⟨h6, h7⟩, by omega, by omega⟩
theorem RowsT.l {rows : List Row} {most : Int} (h : RowsT rows most) : ∀ r ∈ rows, RowL r := fun r hr => by
  obtain ⟨b, s, m, h1, _, h2⟩ := h.row r hr
  exact h2.l h1
def mLast : DM := fun rs n Q => ∃ (rows : List Row), rs = [.tape, .d (dRows rows)] ∧ Cnd (rows.length ≤ 1000 ∧ ∀ r ∈ rows, RowL r) ∧ ∀ i, 1 ≤ i → i ≤ 1000000 → Q (.d (.int i)) n
theorem L_last : ∀ rs n Q, mLast rs n Q → plainR rs ∧ rs.length = 2 := by
  rintro rs n Q ⟨_, rfl, h⟩
  exact tapeR (ds := [_]) rfl
section
variable {P : Program} {w : World} {K : PySem.W.Frag} {mg : Str → Option Value} {base : Heap}
theorem ixRowI {l : List Row} {j : Int} (h0 : 0 ≤ j) (h1 : j < l.length) : ∃ r ∈ l, opIxL (dRows l) (.int j) = some (.d r.dat) := by
  have hj : j.toNat < l.length := by omega
  refine ⟨l[j.toNat], List.getElem_mem hj, ?_⟩
  have := ixRow (l := l) (j := j.toNat) (List.getElem?_eq_getElem hj)
  rw [Int.toNat_of_nonneg h0] at this
  exact this
end

end
section
variable [Fam] [Tabz]
/-! ### openings of rows that differ in what is shown alone -/
structure Same (f : Row → Row) : Prop where
  num : ∀ r, (f r).num = r.num
  side : ∀ r, (f r).side = r.side
  price : ∀ r, (f r).price = r.price
  left : ∀ r, (f r).left = r.left
  rank : ∀ r, (f r).rank = r.rank
theorem prices_map {f : Row → Row} (h : ∀ r, (f r).price = r.price) (rows : List Row) : pricesM (rows.map f) = pricesM rows := by
  induction rows with
  | nil => rfl
  | cons r rows ih =>
    show insP (f r).price (pricesM (rows.map f)) = insP r.price (pricesM rows)
    rw [ih, h]
theorem sum_mapF {f : Row → Row} {q : Row → Bool} (hq : ∀ r, q (f r) = q r) (hl : ∀ r, (f r).left = r.left) (rows : List Row) : (((rows.map f).filter q).map Row.left).sum = ((rows.filter q).map Row.left).sum := by
  rw [List.filter_map, List.map_map, show (q ∘ f) = q from funext hq, show (Row.left ∘ f) = Row.left from funext hl]
theorem steps_map {f : Row → Row} (h : Same f) (rows : List Row) : stepsM (rows.map f) = stepsM rows := by
  unfold stepsM
  rw [prices_map h.price]
  refine List.map_congr_left fun p _ => ?_
  have e1 : demM (rows.map f) p = demM rows p := sum_mapF (fun r => by rw [h.side, h.price]) h.left rows
  have e2 : supM (rows.map f) p = supM rows p := sum_mapF (fun r => by rw [h.side, h.price]) h.left rows
  rw [e1, e2]
theorem rank_map {f : Row → Row} (hs : ∀ r, (f r).side = r.side) (hp : ∀ r, (f r).price = r.price) (hr : ∀ a b, decide ((f a).rank ≤ (f b).rank) = decide (a.rank ≤ b.rank)) (rows : List Row) : rankM (rows.map f) = (rankM rows).map f := by
  have hr' : ∀ a b : Row, (f a).rank ≤ (f b).rank ↔ a.rank ≤ b.rank := fun a b => decide_eq_decide.mp (hr a b)
  have le : ∀ (neg : Bool) (a b : Row), leRow neg (f a) (f b) = leRow neg a b := fun neg a b => by
    unfold leRow
    rw [hp, hp]
    exact decide_eq_decide.mpr (by rw [hr'])
  have sd : ∀ s, sideM (rows.map f) s = (sideM rows s).map f := fun s => by
    unfold sideM
    rw [List.filter_map, show ((fun r : Row => decide (r.side = s)) ∘ f) = fun r => decide (r.side = s) from funext fun r => by show decide ((f r).side = s) = _; rw [hs]]
  unfold rankM
  rw [sd, sd, List.map_append, List.map_mergeSort (s := leRow true) (fun a _ b _ => (le true a b).symm), List.map_mergeSort (s := leRow false) (fun a _ b _ => (le false a b).symm)]
theorem buys_map {f : Row → Row} (h : Same f) (rows : List Row) (p : Int) : buysAt (rows.map f) p = (buysAt rows p).map f ∧ sellsAt (rows.map f) p = (sellsAt rows p).map f := by
  have e := rank_map (f := f) h.side h.price (fun a b => by rw [h.rank, h.rank]) rows
  unfold buysAt sellsAt
  rw [e, List.filter_map, List.filter_map]
  constructor
  · congr 2
    funext r
    show (decide ((f r).side = _) && decide (p ≤ (f r).price)) = _
    rw [h.side, h.price]
  · congr 2
    funext r
    show (decide ((f r).side = _) && decide ((f r).price ≤ p)) = _
    rw [h.side, h.price]
theorem pairF_map {f : Row → Row} (hn : ∀ r, (f r).num = r.num) (hp : ∀ r, (f r).price = r.price) (b s : List Row) : ∀ (k : Nat) (st : PSt), pairF (b.map f) (s.map f) k st = pairF b s k st
  | 0, _ => rfl
  | k + 1, st => by
    unfold pairF
    rw [List.getElem?_map, List.getElem?_map]
    cases b[st.i]? with
    | none => rfl
    | some x =>
      cases s[st.j]? with
      | none => rfl
      | some y =>
        simp only [Option.map_some, hn, hp, pairF_map hn hp b s k]
theorem pairs_map {f : Row → Row} (hn : ∀ r, (f r).num = r.num) (hp : ∀ r, (f r).price = r.price) (hl : ∀ r, (f r).left = r.left) (b s : List Row) : pairsM (b.map f) (s.map f) = pairsM b s := by
  have e0 : pair0 (b.map f) (s.map f) = pair0 b s := by
    unfold pair0
    rw [List.map_map, List.map_map, show (Row.left ∘ f) = Row.left from funext hl]
  by_cases h : ∃ ps k, pairF b s k (pair0 b s) = some ps
  · obtain ⟨ps, k, h⟩ := h
    rw [pairsM_eq h, pairsM_eq (k := k) (by rw [pairF_map hn hp, e0]; exact h)]
  · have h2 : ¬ ∃ ps k, pairF (b.map f) (s.map f) k (pair0 (b.map f) (s.map f)) = some ps := fun ⟨ps, k, z⟩ => h ⟨ps, k, by rw [pairF_map hn hp, e0] at z; exact z⟩
    unfold pairsM
    rw [dif_neg h, dif_neg h2]
theorem deals_map {f : Row → Row} (h : Same f) (rows : List Row) (p : Int) : dealsM (rows.map f) p = dealsM rows p := by
  unfold dealsM
  rw [(buys_map h rows p).1, (buys_map h rows p).2, pairs_map h.num h.price h.left]
/-! what an opening tells, part by part -/
noncomputable def tradesO (rows : List Row) (last : Int) : List Evt := match (priceM (stepsM rows) last).1 with
  | none => []
  | some p => tradesM p (dealsM rows p)
noncomputable def dealO (rows : List Row) (last : Int) : List Pr := match (priceM (stepsM rows) last).1 with
  | none => []
  | some p => dealsM rows p
theorem trades_map {f : Row → Row} (h : Same f) (rows : List Row) (last : Int) : tradesO (rows.map f) last = tradesO rows last ∧ dealO (rows.map f) last = dealO rows last := by
  unfold tradesO dealO
  rw [steps_map h]
  cases (priceM (stepsM rows) last).1 with
  | none => exact ⟨rfl, rfl⟩
  | some p => exact ⟨by dsimp only; rw [deals_map h], deals_map h rows p⟩
/-- of rows as they may stand -/
def SeenOk (r : Row) : Prop := 1 ≤ r.seen ∧ r.seen ≤ r.left
def nl (r : Row) : Int × Int := (r.num, r.left)
def restR (ps : List Pr) (rows : List Row) : List (Int × Int) := (rows.filter fun r => decide (dealtM ps r.num < r.left)).map fun r => (r.num, r.left - dealtM ps r.num)
theorem live_seen {r : Row} (h : SeenOk r) (d : Int) : liveR (seenM r d) = decide (d < r.left) := by
  unfold liveR seenM
  obtain ⟨h1, h2⟩ := h
  dsimp only
  by_cases q : d < r.left
  · rw [decide_eq_true q, decide_eq_true (show 0 < r.left - d by omega), Bool.or_true]
  · rw [decide_eq_false q, decide_eq_false (show ¬ 0 < r.left - d by omega), Bool.or_false]
    refine decide_eq_false ?_
    split <;> omega
theorem rankM_perm {rows : List Row} (h : ∀ r ∈ rows, r.side = "buy" ∨ r.side = "sell") : (rankM rows).Perm rows := by
  have nsb : ¬ (("sell" : Str) = "buy") := by decide +kernel
  have e : (sideM rows "sell") = rows.filter fun r => !decide (r.side = ("buy" : Str)) := by
    unfold sideM
    refine List.filter_congr fun r hr => ?_
    rcases h r hr with q | q
    · rw [q, decide_eq_true rfl, decide_eq_false (fun z => nsb z.symm)]
      rfl
    · rw [q, decide_eq_true rfl, decide_eq_false nsb]
      rfl
  unfold rankM
  refine ((List.mergeSort_perm _ _).append (List.mergeSort_perm _ _)).trans ?_
  rw [e]
  exact List.filter_append_perm (fun r : Row => decide (r.side = ("buy" : Str))) rows
theorem dealt_nil (m : Int) : dealtM [] m = 0 := rfl
theorem open_shape (rows : List Row) (last rank : Int) : (openM rows last rank).price = (priceM (stepsM rows) last).1 ∧ ((openM rows last rank).vol = if (priceM (stepsM rows) last).1 = none then 0 else (priceM (stepsM rows) last).2) := by
  unfold openM
  cases priceM (stepsM rows) last with
  | mk po v => cases po <;> exact ⟨rfl, rfl⟩
theorem open_lefts {rows : List Row} {last rank : Int} (ht : ∀ r ∈ rows, r.side = "buy" ∨ r.side = "sell") (hs : ∀ r ∈ rows, SeenOk r) : ((openM rows last rank).rows.map nl).Perm (restR (dealO rows last) rows) := by
  unfold openM dealO
  cases priceM (stepsM rows) last with
  | mk po v =>
  cases po with
  | none =>
    dsimp only
    have e : restR [] rows = rows.map nl := by
      unfold restR
      rw [List.filter_eq_self.mpr fun r hr => decide_eq_true (by have := hs r hr; unfold SeenOk at this; rw [dealt_nil]; omega)]
      refine List.map_congr_left fun r _ => ?_
      rw [dealt_nil, Int.sub_zero]
      rfl
    rw [e]
    exact (rankM_perm ht).map nl
  | some p =>
    dsimp only
    generalize dealsM rows p = ps
    obtain ⟨es, ss, k, e, hP, hf, _⟩ := anew_fold (behindM rows ps) ([], [], rank)
    have e2 : (anewM (behindM rows ps) rank).2.1 = ss := by unfold anewM; rw [e]; rfl
    rw [e2]
    have hb : ∀ r ∈ behindM rows ps, r.side = "buy" ∨ r.side = "sell" := fun x hx => by
      obtain ⟨y, hy, rfl⟩ := List.mem_map.mp hx
      exact ht y (List.mem_mergeSort.mp hy)
    have hss : ∀ r ∈ ss, r.side = "buy" ∨ r.side = "sell" := hP (fun r => r.side = "buy" ∨ r.side = "sell") hb (fun r s k h => h)
    refine ((rankM_perm hss).map nl).trans ?_
    rw [hf _ nl (fun r s k => rfl)]
    unfold behindM
    rw [List.filter_map, List.map_map]
    have hperm : (rows.mergeSort leRank).Perm rows := List.mergeSort_perm _ _
    have e3 : (rows.mergeSort leRank).filter (liveR ∘ fun r => seenM r (dealtM ps r.num)) = (rows.mergeSort leRank).filter fun r => decide (dealtM ps r.num < r.left) := by
      refine List.filter_congr fun r hr => ?_
      exact live_seen (hs r (List.mem_mergeSort.mp hr)) _
    rw [e3]
    exact (hperm.filter _).map _
def isTr : Evt → Bool
  | .trade .. => true
  | _ => false
def isSh : Evt → Bool
  | .shown .. => true
  | _ => false
def shownO (ps : List Pr) (rows : List Row) : List Evt := ((behindM rows ps).filter fun r => decide (r.seen ≤ 0) && decide (0 < r.left)).map fun r => .shown r.num (partM r.part r.left)
theorem open_evs (rows : List Row) (last rank : Int) : ∃ es, (openM rows last rank).evs = tradesO rows last ++ es ∧ (openM rows last rank).rank = rank + (es.length : Nat) ∧ (((priceM (stepsM rows) last).1 = none ∧ es = []) ∨ es = shownO (dealO rows last) rows) := by
  unfold openM tradesO dealO
  cases priceM (stepsM rows) last with
  | mk po v =>
  cases po with
  | none => exact ⟨[], rfl, by simp, .inl ⟨rfl, rfl⟩⟩
  | some p =>
    dsimp only
    generalize dealsM rows p = ps
    obtain ⟨es, ss, k, e, hP, hf, he, hk⟩ := anew_fold (behindM rows ps) ([], [], rank)
    refine ⟨es, ?_, ?_, .inr he⟩
    · unfold anewM
      rw [e]
      rfl
    · unfold anewM
      rw [e, hk]
theorem trades_tr (rows : List Row) (last : Int) : ∀ e ∈ tradesO rows last, isTr e = true := by
  unfold tradesO
  cases (priceM (stepsM rows) last).1 with
  | none => intro e h; cases h
  | some p =>
    intro e h
    obtain ⟨q, _, rfl⟩ := List.mem_map.mp h
    rfl
theorem shown_sh (ps : List Pr) (rows : List Row) : ∀ e ∈ shownO ps rows, isSh e = true ∧ isTr e = false := by
  intro e h
  obtain ⟨q, _, rfl⟩ := List.mem_map.mp h
  exact ⟨rfl, rfl⟩
theorem open_tr (rows : List Row) (last rank : Int) : (openM rows last rank).evs.filter isTr = tradesO rows last := by
  obtain ⟨es, h1, _, h2⟩ := open_evs rows last rank
  have he : ∀ e ∈ es, isTr e = false := fun e he => by
    rcases h2 with ⟨_, rfl⟩ | rfl
    · cases he
    · exact (shown_sh _ _ e he).2
  rw [h1, List.filter_append, List.filter_eq_self.mpr (trades_tr rows last), List.filter_eq_nil_iff.mpr (fun e h => by rw [he e h]; decide), List.append_nil]
theorem shown_full {f : Row → Row} (hf : ∀ r, (f r).seen = (f r).left) (ps : List Pr) (rows : List Row) : shownO ps (rows.map f) = [] := by
  have h : ∀ r ∈ behindM (rows.map f) ps, ¬ ((decide (r.seen ≤ 0) && decide (0 < r.left)) = true) := fun x hx => by
    obtain ⟨y, hy, rfl⟩ := List.mem_map.mp hx
    obtain ⟨z, _, rfl⟩ := List.mem_map.mp (List.mem_mergeSort.mp hy)
    have := hf z
    unfold seenM
    dsimp only
    rw [Bool.and_eq_true, decide_eq_true_eq, decide_eq_true_eq]
    split <;> omega
  unfold shownO
  rw [List.filter_eq_nil_iff.mpr h]
  rfl
/-! who is dealt with whom -/
theorem pairF_mem (b s : List Row) : ∀ (k : Nat) (st : PSt) (ps : List Pr), pairF b s k st = some ps → ∀ x ∈ ps, x ∈ st.ps ∨ ∃ u ∈ b, ∃ v ∈ s, x.1 = u.num ∧ x.2.1 = v.num
  | 0, st, ps, h => by cases h
  | k + 1, st, ps, h => by
    intro x hx
    have ih := pairF_mem b s k
    unfold pairF at h
    cases e1 : b[st.i]? with
    | none => rw [e1] at h; cases h; exact .inl hx
    | some u =>
      cases e2 : s[st.j]? with
      | none => rw [e1, e2] at h; cases h; exact .inl hx
      | some v =>
        rw [e1, e2] at h
        dsimp only at h
        split at h
        · exact ih { st with j := st.j + 1 } ps h x hx
        · split at h
          · exact ih { st with i := st.i + 1 } ps h x hx
          · rcases ih _ ps h x hx with z | z
            · rcases List.mem_append.mp z with z | z
              · exact .inl z
              · rw [List.mem_singleton.mp z]
                exact .inr ⟨u, List.mem_of_getElem? e1, v, List.mem_of_getElem? e2, rfl, rfl⟩
            · exact .inr z
theorem deals_mem {rows : List Row} {p : Int} {x : Pr} (hx : x ∈ dealsM rows p) : ∃ u ∈ rows, ∃ v ∈ rows, (u.side = "buy" ∧ p ≤ u.price) ∧ (v.side = "sell" ∧ v.price ≤ p) ∧ x.1 = u.num ∧ x.2.1 = v.num := by
  unfold dealsM at hx
  by_cases h : ∃ ps k, pairF (buysAt rows p) (sellsAt rows p) k (pair0 (buysAt rows p) (sellsAt rows p)) = some ps
  · obtain ⟨ps, k, h⟩ := h
    rw [pairsM_eq h] at hx
    rcases pairF_mem _ _ _ _ _ h x hx with z | ⟨u, hu, v, hv, e1, e2⟩
    · cases z
    · obtain ⟨u1, u2⟩ := List.mem_filter.mp hu
      obtain ⟨v1, v2⟩ := List.mem_filter.mp hv
      rw [Bool.and_eq_true, decide_eq_true_eq, decide_eq_true_eq] at u2 v2
      exact ⟨u, rankM_sub u1, v, rankM_sub v1, u2, v2, e1, e2⟩
  · unfold pairsM at hx
    rw [dif_neg h] at hx
    cases hx
theorem num_inj {rows : List Row} (h : (rows.map Row.num).Nodup) {a b : Row} (ha : a ∈ rows) (hb : b ∈ rows) (e : a.num = b.num) : a = b := by
  induction rows with
  | nil => cases ha
  | cons r rows ih =>
    obtain ⟨h1, h2⟩ := List.nodup_cons.mp h
    rcases List.mem_cons.mp ha with za | ha
    · rcases List.mem_cons.mp hb with zb | hb
      · rw [za, zb]
      · rw [za] at e
        exact absurd (List.mem_map.mpr ⟨b, hb, e.symm⟩) h1
    · rcases List.mem_cons.mp hb with zb | hb
      · rw [zb] at e
        exact absurd (List.mem_map.mpr ⟨a, ha, e⟩) h1
      · exact ih h2 ha hb
theorem deals_ne {rows : List Row} (hn : (rows.map Row.num).Nodup) {last : Int} {x : Pr} (hx : x ∈ dealO rows last) : x.1 ≠ x.2.1 := fun e => by
  unfold dealO at hx
  cases hp : (priceM (stepsM rows) last).1 with
  | none => rw [hp] at hx; cases hx
  | some p =>
    rw [hp] at hx
    obtain ⟨u, hu, v, hv, ⟨su, _⟩, ⟨sv, _⟩, e1, e2⟩ := deals_mem hx
    have := num_inj hn hu hv (by rw [← e1, ← e2, e])
    subst this
    rw [su] at sv
    exact absurd sv (by decide +kernel)
def hasN (n : Int) : Evt → Bool
  | .trade b s _ _ => decide (b = n) || decide (s = n)
  | _ => false
def amtE : Evt → Int
  | .trade _ _ _ a => a
  | _ => 0
theorem gone_sum {ps : List Pr} (h : ∀ x ∈ ps, x.1 ≠ x.2.1) (p n : Int) : (((tradesM p ps).filter (hasN n)).map amtE).sum = dealtM ps n := by
  induction ps with
  | nil => rfl
  | cons x ps ih =>
    have ih := ih fun y hy => h y (List.mem_cons_of_mem _ hy)
    have hx := h x List.mem_cons_self
    have e : dealtM (x :: ps) n = ((if x.1 = n then x.2.2 else 0) + (if x.2.1 = n then x.2.2 else 0)) + dealtM ps n := by
      unfold dealtM
      simp
    rw [e, ← ih]
    show (((Evt.trade x.1 x.2.1 p x.2.2 :: tradesM p ps).filter (hasN n)).map amtE).sum = _
    rw [List.filter_cons]
    rw [show hasN n (Evt.trade x.1 x.2.1 p x.2.2) = (decide (x.1 = n) || decide (x.2.1 = n)) from rfl]
    by_cases q1 : x.1 = n
    · have q2 : ¬ x.2.1 = n := fun z => hx (q1.trans z.symm)
      rw [if_pos (by rw [decide_eq_true q1]; rfl), if_pos q1, if_neg q2]
      simp [amtE]
    · by_cases q2 : x.2.1 = n
      · rw [if_pos (by rw [decide_eq_true q2, Bool.or_true]), if_neg q1, if_pos q2]
        simp [amtE]
      · rw [if_neg (by rw [decide_eq_false q1, decide_eq_false q2]; decide), if_neg q1, if_neg q2]
        simp
theorem gone_open {rows : List Row} (hn : (rows.map Row.num).Nodup) (last rank n : Int) : (((openM rows last rank).evs.filter (hasN n)).map amtE).sum = dealtM (dealO rows last) n := by
  obtain ⟨es, h1, _, h2⟩ := open_evs rows last rank
  have he : ∀ e ∈ es, ¬ hasN n e = true := fun e he => by
    rcases h2 with ⟨_, rfl⟩ | rfl
    · cases he
    · obtain ⟨q, _, rfl⟩ := List.mem_map.mp he
      exact fun z => Bool.noConfusion (show false = true from z)
  rw [h1, List.filter_append, List.filter_eq_nil_iff.mpr he, List.append_nil]
  have hd : ∀ x ∈ dealO rows last, x.1 ≠ x.2.1 := fun x hx => deals_ne hn hx
  unfold tradesO
  unfold dealO at hd ⊢
  cases hp : (priceM (stepsM rows) last).1 with
  | none => rfl
  | some p =>
    rw [hp] at hd
    exact gone_sum hd p n
theorem count_num {q : Row → Bool} {r : Row} : ∀ {L : List Row}, (L.map Row.num).Nodup → r ∈ L → ((L.filter q).map Row.num).count r.num = if q r = true then 1 else 0
  | [], _, h => by cases h
  | a :: L, hn, h => by
    obtain ⟨h1, h2⟩ := List.nodup_cons.mp hn
    rw [List.filter_cons]
    rcases List.mem_cons.mp h with rfl | hr
    · have z : ((L.filter q).map Row.num).count r.num = 0 := List.count_eq_zero.mpr fun m => h1 (by
        obtain ⟨x, hx, e⟩ := List.mem_map.mp m
        exact List.mem_map.mpr ⟨x, (List.mem_filter.mp hx).1, e⟩)
      split
      · rw [List.map_cons, List.count_cons_self, z]
      · exact z
    · have ih := count_num (q := q) h2 hr
      have ne : ¬ a.num = r.num := fun e => h1 (List.mem_map.mpr ⟨r, hr, e.symm⟩)
      split
      · rw [List.map_cons, List.count_cons_of_ne ne]
        exact ih
      · exact ih
def numE : Evt → Int
  | .trade b _ _ _ => b
  | .shown m _ => m
  | .off m _ => m
  | .less r _ _ => r
theorem shown_count {rows : List Row} (hn : (rows.map Row.num).Nodup) (hs : ∀ r ∈ rows, SeenOk r) (last rank : Int) {r : Row} (hr : r ∈ rows) : (((openM rows last rank).evs.filter isSh).map numE).count r.num = if r.seen ≤ dealtM (dealO rows last) r.num ∧ dealtM (dealO rows last) r.num < r.left then 1 else 0 := by
  obtain ⟨es, h1, _, h2⟩ := open_evs rows last rank
  have ht : (tradesO rows last).filter isSh = [] := List.filter_eq_nil_iff.mpr fun e he => by
    have := trades_tr rows last e he
    cases e <;> first | cases this; done | exact fun z => Bool.noConfusion (show false = true from z)
  rw [h1, List.filter_append, ht, List.nil_append]
  have ok := hs r hr
  unfold SeenOk at ok
  rcases h2 with ⟨hp, rfl⟩ | rfl
  · have e : dealO rows last = [] := by unfold dealO; rw [hp]
    rw [e, dealt_nil, if_neg (by omega)]
    rfl
  · rw [List.filter_eq_self.mpr fun e he => (shown_sh _ _ e he).1]
    generalize dealO rows last = ps
    unfold shownO behindM
    rw [List.map_map, List.filter_map, List.map_map]
    have hperm : (rows.mergeSort leRank).Perm rows := List.mergeSort_perm _ _
    have e : (numE ∘ (fun r : Row => Evt.shown r.num (partM r.part r.left))) ∘ (fun r => seenM r (dealtM ps r.num)) = Row.num := rfl
    rw [e]
    rw [count_num (q := (fun r : Row => decide (r.seen ≤ 0) && decide (0 < r.left)) ∘ fun r => seenM r (dealtM ps r.num)) ((hperm.map Row.num).nodup_iff.mpr hn) (hperm.mem_iff.mpr hr)]
    have e2 : (((fun r : Row => decide (r.seen ≤ 0) && decide (0 < r.left)) ∘ fun r => seenM r (dealtM ps r.num)) r = true) ↔ (r.seen ≤ dealtM ps r.num ∧ dealtM ps r.num < r.left) := by
      show (decide ((if r.seen - dealtM ps r.num > 0 then r.seen - dealtM ps r.num else 0) ≤ 0) && decide (0 < r.left - dealtM ps r.num)) = true ↔ _
      rw [Bool.and_eq_true, decide_eq_true_eq, decide_eq_true_eq]
      split <;> omega
    by_cases q : r.seen ≤ dealtM ps r.num ∧ dealtM ps r.num < r.left
    · rw [if_pos q, if_pos (e2.mpr q)]
    · rw [if_neg q, if_neg (fun z => q (e2.mp z))]

end
section
variable [Tabz]
/-! ### how long what an opening tells is -/
theorem deals_len {rows : List Row} (h : ∀ r ∈ rows, 0 ≤ r.left) (p : Int) : (dealsM rows p).length ≤ 4 * rows.length := by
  have rl := rankM_len rows
  unfold dealsM
  by_cases hx : ∃ ps k, pairF (buysAt rows p) (sellsAt rows p) k (pair0 (buysAt rows p) (sellsAt rows p)) = some ps
  · obtain ⟨ps, k, hk⟩ := hx
    rw [pairsM_eq hk]
    have q := pairs_len hk (fun r hr => h r (rankM_sub (List.mem_filter.mp hr).1)) (fun r hr => h r (rankM_sub (List.mem_filter.mp hr).1))
    have b1 : (buysAt rows p).length ≤ (rankM rows).length := List.length_filter_le _ _
    have b2 : (sellsAt rows p).length ≤ (rankM rows).length := List.length_filter_le _ _
    omega
  · unfold pairsM
    rw [dif_neg hx]
    exact Nat.zero_le _
theorem open_len {rows : List Row} (h : ∀ r ∈ rows, 0 ≤ r.left) (last rank : Int) : (openM rows last rank).evs.length ≤ 5 * rows.length ∧ (openM rows last rank).rows.length ≤ 2 * rows.length := by
  unfold openM
  cases priceM (stepsM rows) last with
  | mk po v =>
  cases po with
  | none => exact ⟨Nat.zero_le _, rankM_len rows⟩
  | some p =>
    dsimp only
    have d := deals_len h p
    generalize dealsM rows p = ps at d ⊢
    have bhl : (behindM rows ps).length = rows.length := by unfold behindM; rw [List.length_map, List.length_mergeSort]
    have al := anew_len (behindM rows ps) ([], [], rank)
    have al1 : (anewM (behindM rows ps) rank).1.length ≤ 0 + (behindM rows ps).length := al.1
    have al2 : (anewM (behindM rows ps) rank).2.1.length ≤ 0 + (behindM rows ps).length := al.2
    have rl := rankM_len (anewM (behindM rows ps) rank).2.1
    have tl : (tradesM p ps).length = ps.length := List.length_map _
    refine ⟨by rw [List.length_append]; omega, by omega⟩
theorem pd2_lay : ∀ ps : List (Int × Int), PyData.canLayAll0 (ps.map pd2) = true
  | [] => rfl
  | p :: ps => by
    show (PyData.canLay0 (pd2 p) && PyData.canLayAll0 (ps.map pd2)) = true
    rw [pd2_lay ps]
    rfl
theorem pd2_depth : ∀ ps : List (Int × Int), PyData.depthAll (ps.map pd2) ≤ 2
  | [] => by show 0 ≤ 2; omega
  | p :: ps => by
    have := pd2_depth ps
    simp only [List.map_cons, PyData.depthAll, pd2, PyData.depth]
    omega
theorem pd2_shaped (ps : List (Int × Int)) : SeqAt.shaped (.list (ps.map pd2)) = true := by
  have := pd2_depth ps
  refine shaped_of ?_ ?_
  · simp only [PyData.canLay0]
    exact pd2_lay ps
  · simp only [PyData.depth]
    omega
theorem slop (o : OpR) : opSlT o.dat none (some 2) = some (.d (.tuple [datP o.price, .int o.vol])) := rfl
theorem ne_two {a b : Option Int} {v w : Int} (h : a = b) (h2 : v = w) : opNeD (.tuple [datP a, .int v]) (.tuple [datP b, .int w]) = some (.d (.bool false)) := by
  subst h
  subst h2
  obtain ⟨p1, p2⟩ := datP_lay a
  refine ne_self (shaped_of ?_ ?_)
  · simp only [PyData.canLay0, PyData.canLayAll0, p1]
    rfl
  · simp only [PyData.depth, PyData.depthAll, p2]
    omega
theorem RowsT.seen {rows : List Row} {most : Int} (h : RowsT rows most) : ∀ r ∈ rows, SeenOk r ∧ 0 ≤ r.left := fun r hr => by
  obtain ⟨b, s, m, h1, _, h2, h3, h4, _⟩ := h.row r hr
  exact ⟨h4, by omega⟩
theorem RowsT.txt {rows : List Row} {most : Int} (h : RowsT rows most) : ∀ r ∈ rows, RowTxt r := fun r hr => (h.l r hr).1
theorem open_tell (rows : List Row) (last rank : Int) : ∀ e ∈ (openM rows last rank).evs, isTr e = true ∨ isSh e = true := fun e he => by
  obtain ⟨es, h1, _, h2⟩ := open_evs rows last rank
  rw [h1] at he
  rcases List.mem_append.mp he with z | z
  · exact .inl (trades_tr rows last e z)
  · rcases h2 with ⟨_, rfl⟩ | rfl
    · cases z
    · exact .inr (shown_sh _ _ e z).1

end
section
variable [Tabz]
def mLawTable : DM := fun rs n Q => ∃ (rows : List Row), rs = [.d (dRows rows)] ∧ Cnd (rows.length ≤ 1000) ∧ Q (.own ((stepsM rows).map Stp.dat)) n
theorem L_law_table : ∀ rs n Q, mLawTable rs n Q → plainR rs ∧ rs.length = 1 := by
  rintro rs n Q ⟨_, rfl, h⟩
  exact plain1
/-- a row as it stands -/
def RowAt (H : Hp) (v : V) (r : Row) : Prop := ∃ (a : Addr) (x1 x2 x5 x7 x8 : V), v = .ref a ∧ H a = some (.tup [x1, x2, .str r.side, .int r.price, x5, .int r.left, x7, x8])
theorem row_at {M : Hp} {v : V} {r : Row} (h : Rp M v r.dat) : RowAt M v r := by
  have h : Rp M v (.tuple [.int r.num, .str r.who, .str r.side, .int r.price, datP r.part, .int r.left, .int r.seen, .int r.rank]) := h
  cases h with
  | @tup a vs _ g1 g2 =>
    cases g2 with
    | cons r1 t1 => cases t1 with
      | cons r2 t2 => cases t2 with
        | cons r3 t3 => cases t3 with
          | cons r4 t4 => cases t4 with
            | cons r5 t5 => cases t5 with
              | cons r6 t6 => cases t6 with
                | cons r7 t7 => cases t7 with
                  | cons r8 t8 =>
                    cases t8
                    cases r3
                    cases r4
                    cases r6
                    exact ⟨a, _, _, _, _, _, rfl, g1⟩
theorem rows_at {B : Addr → Prop} {H : Hp} : ∀ {vs : List V} {rows : List Row}, RpA (msk B H) vs (rows.map Row.dat) → vs.length = rows.length ∧ ∀ (i : Nat) (r : Row), rows[i]? = some r → ∃ v, vs[i]? = some v ∧ RowAt H v r := fun {vs rows} h => by
  refine ⟨by rw [h.length, List.length_map], fun i r hr => ?_⟩
  obtain ⟨v, e, rp⟩ := h.get (i := i) (d := r.dat) (by rw [List.getElem?_map, hr]; rfl)
  obtain ⟨a, x1, x2, x5, x7, x8, e1, e2⟩ := row_at rp
  exact ⟨v, e, a, x1, x2, x5, x7, x8, e1, (msk_some e2).2⟩
/-- the law's table as it stands: a dict of lists of two -/
structure TabAt (H0 h : Hp) (a : Addr) (ws : List (Key × V)) (val : Int → Int × Int) : Prop where
  keys : (ws.map (·.1)).Nodup
  vals : ∀ kv ∈ ws, ∃ (p : Int) (b : Addr), kv = (.inl p, .ref b) ∧ h b = some (.lst [.int (val p).1, .int (val p).2]) ∧ b ≠ a ∧ H0 b = none
  inj : (ws.map (·.2)).Nodup
theorem TabAt.put {H0 h : Hp} {a b : Addr} {ws : List (Key × V)} {p : Int} (t : TabAt H0 h a ws fun _ => (0, 0)) (nb : h b = none) (n0 : H0 b = none) (ha : h a ≠ none) :
    TabAt H0 (upd (upd h b (.lst [.int 0, .int 0])) a (.dK (putK ws (.inl p) (.ref b)))) a (putK ws (.inl p) (.ref b)) (fun _ => (0, 0)) ∧ ∀ x, x ∈ (putK ws (.inl p) (.ref b)).map (·.1) ↔ x ∈ ws.map (·.1) ∨ x = .inl p := by
  have ba : b ≠ a := fun e => ha (e ▸ nb)
  have old : ∀ X, ∀ kv ∈ ws, ∃ (q : Int) (b' : Addr), kv = (.inl q, .ref b') ∧ b' ≠ b ∧ (upd (upd h b (.lst [.int 0, .int 0])) a X) b' = some (.lst [.int 0, .int 0]) ∧ b' ≠ a ∧ H0 b' = none := fun X kv hk => by
    obtain ⟨q, b', e, e1, e2, e3⟩ := t.vals kv hk
    have ne : b' ≠ b := fun z => by rw [z, nb] at e1; cases e1
    exact ⟨q, b', e, ne, by rw [upd_ne e2, upd_ne ne]; exact e1, e2, e3⟩
  have new : ∀ X, (upd (upd h b (.lst [.int 0, .int 0])) a X) b = some (.lst [.int 0, .int 0]) := fun X => by rw [upd_ne ba, upd_same]
  have nv : ∀ kv ∈ ws, kv.2 ≠ V.ref b := fun kv hk e => by
    obtain ⟨q, b', e1, ne, _⟩ := old (.lst []) kv hk
    rw [e1] at e
    cases e
    exact ne rfl
  have k2 := List.pairwise_map.mp t.keys
  have v2 := List.pairwise_map.mp t.inj
  unfold putK
  split
  · rename_i q
    have ek : (ws.map fun kv => if kv.1 = (.inl p : Key) then (kv.1, V.ref b) else kv).map (·.1) = ws.map (·.1) := by
      rw [List.map_map]
      apply List.map_congr_left
      intro x _
      show (if x.1 = (.inl p : Key) then (x.1, V.ref b) else x).1 = x.1
      split <;> rfl
    refine ⟨⟨by rw [ek]; exact t.keys, fun kv hk => ?_, ?_⟩, fun x => ?_⟩
    · obtain ⟨x, hx, rfl⟩ := List.mem_map.mp hk
      by_cases z : x.1 = (.inl p : Key)
      · rw [if_pos z, z]
        exact ⟨p, b, rfl, new _, ba, n0⟩
      · rw [if_neg z]
        obtain ⟨q', b', e, _, e1, e2, e3⟩ := old _ x hx
        exact ⟨q', b', e, e1, e2, e3⟩
    · rw [List.map_map]
      refine List.pairwise_map.mpr (List.Pairwise.imp_of_mem ?_ (List.pairwise_and_iff.mpr ⟨k2, v2⟩))
      intro x y hx hy ⟨n1, n2⟩
      show (if x.1 = (.inl p : Key) then (x.1, V.ref b) else x).2 ≠ (if y.1 = (.inl p : Key) then (y.1, V.ref b) else y).2
      by_cases zx : x.1 = (.inl p : Key) <;> by_cases zy : y.1 = (.inl p : Key)
      · exact absurd (zx.trans zy.symm) n1
      · rw [if_pos zx, if_neg zy]
        exact fun e => nv y hy e.symm
      · rw [if_neg zx, if_pos zy]
        exact fun e => nv x hx e
      · rw [if_neg zx, if_neg zy]
        exact n2
    · rw [ek]
      refine ⟨.inl, fun z => z.elim id fun z => ?_⟩
      obtain ⟨y, hy, hk⟩ := List.any_eq_true.mp q
      rw [z, ← of_decide_eq_true hk]
      exact List.mem_map.mpr ⟨y, hy, rfl⟩
  · rename_i q
    have no : ∀ y ∈ ws, y.1 ≠ (.inl p : Key) := fun y hy e => q (List.any_eq_true.mpr ⟨y, hy, decide_eq_true e⟩)
    refine ⟨⟨?_, fun kv hk => ?_, ?_⟩, fun x => ?_⟩
    · rw [List.map_append]
      refine List.nodup_append.mpr ⟨t.keys, by simp, fun u hu v hv => ?_⟩
      obtain ⟨y, hy, rfl⟩ := List.mem_map.mp hu
      have hv : v ∈ [(.inl p : Key)] := hv
      rw [List.mem_singleton.mp hv]
      exact no y hy
    · rcases List.mem_append.mp hk with z | z
      · obtain ⟨q', b', e, _, e1, e2, e3⟩ := old _ kv z
        exact ⟨q', b', e, e1, e2, e3⟩
      · rw [List.mem_singleton.mp z]
        exact ⟨p, b, rfl, new _, ba, n0⟩
    · rw [List.map_append]
      refine List.nodup_append.mpr ⟨t.inj, by simp, fun u hu v hv => ?_⟩
      obtain ⟨y, hy, rfl⟩ := List.mem_map.mp hu
      have hv : v ∈ [V.ref b] := hv
      rw [List.mem_singleton.mp hv]
      exact nv y hy
    · rw [List.map_append, List.mem_append]
      show _ ∨ x ∈ [(.inl p : Key)] ↔ _
      rw [List.mem_singleton]
abbrev Kept (H h : Hp) : Prop := ∀ b o, H b = some o → h b = some o
theorem kept_new {H : Hp} {p : Addr} {o : HO} (h : H p = none) : Kept H (upd H p o) := fun a u e => by
  rw [upd_ne (ne_of_none e h)]
  exact e
theorem ne_of_none' {h : Hp} {a b : Addr} {o : HO} (ha : h a = some o) (hb : h b = none) : b ≠ a := fun e => by rw [e, ha] at hb; cases hb
theorem TabAt.set {H0 h : Hp} {a b : Addr} {ws : List (Key × V)} {val : Int → Int × Int} {p x y : Int} (t : TabAt H0 h a ws val) (hp : ((Sum.inl p : Key), V.ref b) ∈ ws) :
    TabAt H0 (upd h b (.lst [.int x, .int y])) a ws (fun q => if q = p then (x, y) else val q) := by
  refine ⟨t.keys, fun kv hk => ?_, t.inj⟩
  obtain ⟨q, b', e, e1, e2, e3⟩ := t.vals kv hk
  subst e
  by_cases z : q = p
  · subst z
    have eb : b' = b := by
      have k2 := List.pairwise_map.mp t.keys
      have : ∀ l : List (Key × V), l.Pairwise (fun u v => u.1 ≠ v.1) → ((Sum.inl q : Key), V.ref b') ∈ l → ((Sum.inl q : Key), V.ref b) ∈ l → b' = b := fun l => by
        induction l with
        | nil => intro _ h; cases h
        | cons u l ih =>
          intro pw h1 h2
          obtain ⟨q1, q2⟩ := List.pairwise_cons.mp pw
          rcases List.mem_cons.mp h1 with z1 | z1 <;> rcases List.mem_cons.mp h2 with z2 | z2
          · have := z1.trans z2.symm
            cases this
            rfl
          · exact absurd (by rw [← z1]) (q1 _ z2)
          · exact absurd (by rw [← z2]) (q1 _ z1)
          · exact ih q2 z1 z2
      exact this ws k2 hk hp
    subst eb
    exact ⟨q, b', rfl, by rw [upd_same, if_pos rfl], e2, e3⟩
  · have nb : b' ≠ b := fun e => by
      subst e
      have v2 := List.pairwise_map.mp t.inj
      have : ∀ l : List (Key × V), l.Pairwise (fun u v => u.2 ≠ v.2) → ((Sum.inl q : Key), V.ref b') ∈ l → ((Sum.inl p : Key), V.ref b') ∈ l → q = p := fun l => by
        induction l with
        | nil => intro _ h; cases h
        | cons u l ih =>
          intro pw h1 h2
          obtain ⟨q1, q2⟩ := List.pairwise_cons.mp pw
          rcases List.mem_cons.mp h1 with z1 | z1 <;> rcases List.mem_cons.mp h2 with z2 | z2
          · have := z1.trans z2.symm
            cases this
            rfl
          · exact absurd (by rw [← z1]) (q1 _ z2)
          · exact absurd (by rw [← z2]) (q1 _ z1)
          · exact ih q2 z1 z2
      exact z (this ws v2 hk hp)
    exact ⟨q, b', rfl, by rw [upd_ne nb, if_neg z]; exact e1, e2, e3⟩
theorem TabAt.mv {H0 h h' : Hp} {a : Addr} {ws : List (Key × V)} {val : Int → Int × Int} (t : TabAt H0 h a ws val) (k : ∀ b, b ≠ a → h' b = h b) : TabAt H0 h' a ws val := ⟨t.keys, fun kv hk => by
  obtain ⟨q, b', e, e1, e2, e3⟩ := t.vals kv hk
  exact ⟨q, b', e, by rw [k b' e2]; exact e1, e2, e3⟩, t.inj⟩
theorem valV_mem {k : Key} {v : V} : ∀ {ws : List (Key × V)}, (ws.map (·.1)).Nodup → (k, v) ∈ ws → valV ws k = some v
  | [], _, h => by cases h
  | u :: ws, nd, h => by
    rw [List.map_cons, List.nodup_cons] at nd
    unfold valV
    rw [List.find?_cons]
    rcases List.mem_cons.mp h with e | e
    · rw [← e]
      simp
    · have ne : ¬ u.1 = k := fun z => nd.1 (List.mem_map.mpr ⟨_, e, z.symm⟩)
      rw [decide_eq_false ne]
      exact valV_mem nd.2 e
theorem dem_snoc (l : List Row) (r : Row) (p : Int) : demM (l ++ [r]) p = demM l p + if r.side = ("buy" : Str) ∧ p ≤ r.price then r.left else 0 := by
  unfold demM
  rw [List.filter_append, List.map_append, List.sum_append]
  by_cases h : r.side = ("buy" : Str) ∧ p ≤ r.price
  · rw [if_pos h]
    simp [List.filter, h.1, h.2]
  · rw [if_neg h]
    have : (decide (r.side = ("buy" : Str)) && decide (p ≤ r.price)) = false := by
      by_cases h1 : r.side = ("buy" : Str)
      · rw [decide_eq_true h1, decide_eq_false fun z => h ⟨h1, z⟩]; rfl
      · rw [decide_eq_false h1]; rfl
    simp [List.filter, this]
theorem sup_snoc (l : List Row) (r : Row) (p : Int) : supM (l ++ [r]) p = supM l p + if r.side = ("sell" : Str) ∧ r.price ≤ p then r.left else 0 := by
  unfold supM
  rw [List.filter_append, List.map_append, List.sum_append]
  by_cases h : r.side = ("sell" : Str) ∧ r.price ≤ p
  · rw [if_pos h]
    simp [List.filter, h.1, h.2]
  · rw [if_neg h]
    have : (decide (r.side = ("sell" : Str)) && decide (r.price ≤ p)) = false := by
      by_cases h1 : r.side = ("sell" : Str)
      · rw [decide_eq_true h1, decide_eq_false fun z => h ⟨h1, z⟩]; rfl
      · rw [decide_eq_false h1]; rfl
    simp [List.filter, this]
theorem TabAt.cg {H0 h : Hp} {a : Addr} {ws : List (Key × V)} {val val' : Int → Int × Int} (t : TabAt H0 h a ws val) (e : ∀ q, val q = val' q) : TabAt H0 h a ws val' := (funext e : val = val') ▸ t
theorem rpa_of {M : Hp} : ∀ {vs : List V} {ds : List PyData}, vs.length = ds.length → (∀ (j : Nat) (v : V) (d : PyData), vs[j]? = some v → ds[j]? = some d → Rp M v d) → RpA M vs ds
  | [], [], _, _ => .nil
  | [], _ :: _, h, _ => by cases h
  | _ :: _, [], h, _ => by cases h
  | v :: vs, d :: ds, h, k => .cons (k 0 v d rfl rfl) (rpa_of (Nat.succ.inj h) fun j v d e1 e2 => k (j + 1) v d e1 e2)
theorem side9 {s z : Str} (h : decide (V.str s = V.str z) = true) : s = z := by
  have := of_decide_eq_true h
  cases this
  rfl
theorem side8 {s z : Str} (h : s = z) : decide (V.str s = V.str z) = true := decide_eq_true (by rw [h])
section
variable {P : Program} {w : World} {K : PySem.W.Frag} {mg : Str → Option Value} {base : Heap}
abbrev s_law_table : Stmt := topS 12
theorem sc_law_table : FnScope ["rows", "found", "row", "price"] ["rows"] (defScope s_law_table) := ⟨rfl, rfl, rfl, by decide +kernel, rfl, by decide +kernel, by decide +kernel⟩
theorem ok_law_table {f : Addr} {fd : FuncData} (F : Fun K "_law_table" "_law_table" s_law_table f fd) (T : Txt mg) : FnOk P w K mg base CX0 1 f fd ["rows"] (spD mLawTable) := by
  refine F.ok sc_law_table (fun vs H Q E h => ?_) (fun cdv A outer s H vs Q E hr h => ?_)
  · obtain ⟨c, n, rs, Q', h0, g, pn, ok, hm, kk⟩ := h
    rw [ok.length]
    exact (L_law_table _ _ _ hm).2
  · obtain ⟨c, n, rs, Q', h0, gG, pn, ok, ⟨rows, e, cc, hq⟩, kk⟩ := h
    subst h0
    subst e
    have hl := cc.get
    refine ⟨_, (pss_cons (ps_set (i := 1) sc_law_table.nd rfl (Or.inr rfl) pe_dnewK)
          (pss_cons (ps_for PassesOwn.never rfl (pi_list (pv 0)) (pg_name (i := 2) sc_law_table.nd rfl (Or.inl rfl))
           (pss_one (ps_dput (hu_of hr) (pv 1) (pe_ix (r := rIxT K) ix_tup (pv 2) pe_int (fun _ _ => rfl)) (pe_lst (pa_cons pe_int (pa_cons pe_int pa_nil))) rfl)))
          (pss_cons (ps_lock (ps_for PassesOwn.never rfl (pi_keys (pv 1)) (pg_name (i := 3) sc_law_table.nd rfl (Or.inl rfl))
           (pss_one (ps_for PassesOwn.never rfl (pi_list (pv 0)) (pg_name (i := 2) sc_law_table.nd rfl (Or.inl rfl))
             (pss_cons (ps_if (PW.pt (pw_and (pt_cmpR op_eq (pe_ix (r := rIxT K) ix_tup (pv 2) pe_int (fun _ _ => rfl)) pe_str (nomark _)) (pw_and1 (pt_cmpR op_ge (pe_ix (r := rIxT K) ix_tup (pv 2) pe_int (fun _ _ => rfl)) (pv 3) (nomark _))))) (pss_one (ps_asg (pe_op op_add (pe_ix (r := rIxL K) ix_list (pe_dget (hu_of hr) (pv 1) (pv 3) (fun _ _ => rfl)) pe_int (fun _ _ => rfl)) (pe_ix (r := rIxT K) ix_tup (pv 2) pe_int (fun _ _ => rfl))) (pg_sub (pe_dget (hu_of hr) (pv 1) (pv 3) (fun _ _ => rfl)) pe_int set_list))) pss_nil)
              (pss_one (ps_if (PW.pt (pw_and (pt_cmpR op_eq (pe_ix (r := rIxT K) ix_tup (pv 2) pe_int (fun _ _ => rfl)) pe_str (nomark _)) (pw_and1 (pt_cmpR op_le (pe_ix (r := rIxT K) ix_tup (pv 2) pe_int (fun _ _ => rfl)) (pv 3) (nomark _))))) (pss_one (ps_asg (pe_op op_add (pe_ix (r := rIxL K) ix_list (pe_dget (hu_of hr) (pv 1) (pv 3) (fun _ _ => rfl)) pe_int (fun _ _ => rfl)) (pe_ix (r := rIxT K) ix_tup (pv 2) pe_int (fun _ _ => rfl))) (pg_sub (pe_dget (hu_of hr) (pv 1) (pv 3) (fun _ _ => rfl)) pe_int set_list))) pss_nil)))))))
          (pss_one (ps_ret (pe_lc (own := [("price", 3)]) (g := gName 3) (tt := tYes) rfl sc_law_table.nd (pi_list (pe_callB (cr_sortKeys rfl) (by rfl) T.b_sorted (by decide +kernel) (pa_cons (pv 1) pa_nil))) (blkOk_by (N := ["rows", "found", "row", "price"]) (sc := defScope s_law_table) (by decide +kernel)) (fun _ _ _ _ _ => (pg_name (i := 3) sc_law_table.nd rfl (Or.inl rfl))) (fun _ _ _ _ _ => pts_nil) (fun _ _ _ _ _ => (pe_tup (pa_cons (pv 3) (pa_cons (pe_ix (r := rIxL K) ix_list (pe_dget (hu_of hr) (pv 1) (pv 3) (fun _ _ => rfl)) pe_int (fun _ _ => rfl)) (pa_cons (pe_ix (r := rIxL K) ix_list (pe_dget (hu_of hr) (pv 1) (pv 3) (fun _ _ => rfl)) pe_int (fun _ _ => rfl)) pa_nil))))))))))), ?_⟩
    cases ok with
    | @cons v0 _ _ _ h1 _ t =>
    cases t
    have h1 : Rp (msk c.B c.H0) v0 (.list (rows.map Row.dat)) := h1
    cases h1 with
    | @lst L rvs _ g1 g2 =>
    obtain ⟨rl, rat⟩ := rows_at g2
    have g1 := (msk_some g1).2
    intro a na
    have aL : a ≠ L := fun e => by rw [e, g1] at na; cases na
    have gs : ∀ {h : Hp}, Kept c.H0 h → h L = some (.lst rvs) := fun {h} sm => sm _ _ g1
    refine ⟨_, rfl, L, rfl, ⟨_, SqL.of (by rw [upd_ne aL.symm]; exact g1)⟩, for_list (K := K) (a := L) (xs := rvs) (fun i σ h => ∃ (ws : List (Key × V)) (v2 v3 : Option V), σ = [some (.ref L), some (.ref a), v2, v3] ∧ TabAt c.H0 h a ws (fun _ => (0, 0)) ∧ h a = some (.dK ws) ∧ ws.length ≤ i ∧ (∀ x, x ∈ ws.map (·.1) ↔ x ∈ ((rows.take i).map Row.price).map (Sum.inl : Int → Key)) ∧ Kept c.H0 h)
      ⟨[], none, none, rfl, ⟨List.nodup_nil, fun kv hk => (by cases hk), List.nodup_nil⟩, upd_same, Nat.le_refl _, fun x => ⟨fun z => (by cases z), fun z => (by cases z)⟩, kept_new na⟩ (fun i σ h _ ⟨_, _, _, _, _, _, _, _, sm⟩ => SqL.of (gs sm)) ?_ ?_⟩
    · rintro i x σ h hx ⟨ws, v2, v3, rfl, TA, ha, hlen, mem, sm⟩
      have hi : i < rows.length := by
        rw [← rl]
        exact (List.getElem?_eq_some_iff.mp hx).1
      obtain ⟨r, hr⟩ : ∃ r, rows[i]? = some r := ⟨_, List.getElem?_eq_getElem hi⟩
      obtain ⟨v, e, ar, x1, x2, x5, x7, x8, rfl, hrow⟩ := rat i r hr
      rw [hx] at e
      cases e
      refine ⟨(by show 2 ≤ sizeLine; decide), fun b nb => ?_⟩
      have nb : h b = none := nb
      have ba : b ≠ a := ne_of_none' ha nb
      have n0 : c.H0 b = none := by
        cases z : c.H0 b with
        | none => rfl
        | some o => rw [sm _ _ z] at nb; cases nb
      have sm2 : Kept c.H0 (upd h b (.lst [.int 0, .int 0])) := fun b' o z => by
        rw [upd_ne (ne_of_none (sm _ _ z) nb)]
        exact sm _ _ z
      obtain ⟨T1, T2⟩ := TA.put (p := r.price) nb n0 (by rw [ha]; exact fun z => by cases z)
      have hrow2 : (upd h b (.lst [.int 0, .int 0])) ar = some (.tup [x1, x2, .str r.side, .int r.price, x5, .int r.left, x7, x8]) := sm2 _ _ hrow
      have ha2 : (upd h b (.lst [.int 0, .int 0])) a = some (.dK ws) := by rw [upd_ne ba.symm]; exact ha
      have tk : rows.take (i + 1) = rows.take i ++ [r] := by rw [List.take_succ, hr]; rfl
      refine ⟨_, rfl, _, rfl, ar, _, 3, .int r.price, rfl, rfl, SqT.of hrow2, rfl, a, _, rfl, .inl ⟨ws, .inl r.price, ha2, rfl, Nat.lt_of_le_of_lt hlen (Nat.lt_of_lt_of_le (show i < 1000 by omega) (by decide)), rfl⟩, ?_⟩
      have lp : (putK ws (.inl r.price) (.ref b)).length ≤ ws.length + 1 := length_putK ws _ _
      refine ⟨_, _, _, rfl, T1, upd_same, by omega, fun x => ?_, fun b' o z => ?_⟩
      · rw [T2 x, mem x, tk, List.map_append, List.map_append, List.mem_append]
        show _ ∨ x = Sum.inl r.price ↔ _ ∨ x ∈ [(Sum.inl r.price : Key)]
        rw [List.mem_singleton]
      · rw [upd_ne (ne_of_none z na)]
        exact sm2 _ _ z
    · rintro σ h ⟨ws, v2, v3, rfl, TA, ha, hlen, mem, sm⟩
      refine ⟨a, _, ha, True.intro, fun od => ?_⟩
      refine ⟨_, rfl, a, od, rfl, .inl ⟨ws, upd_same, for_it walk_keys (fun i σ g => ∃ (val : Int → Int × Int) (v2 v3 : Option V), σ = [some (.ref L), some (.ref a), v2, v3] ∧ TabAt c.H0 g a ws val ∧ (∀ q, (Sum.inl q : Key) ∈ (ws.take i).map (·.1) → val q = (demM rows q, supM rows q)) ∧ (∀ q, (Sum.inl q : Key) ∉ (ws.take i).map (·.1) → val q = (0, 0)) ∧ g a = some (.frz od (.dK ws)) ∧ Kept c.H0 g)
        ⟨fun _ => (0, 0), v2, v3, rfl, TA.mv fun b nb => upd_ne nb, fun q z => (by cases z), fun q _ => rfl, upd_same, fun b' o z => by rw [upd_ne (ne_of_none z na)]; exact sm _ _ z⟩ (fun i σ g _ ⟨_, _, _, _, _, _, _, ga, _⟩ => ga) ?_ ?_⟩⟩
      · rintro i x σ g g' hi ⟨val, v2, v3, rfl, TB, full, zero, ga, sg⟩ ⟨rfl, k, v, hk, rfl⟩
        have hm := List.mem_of_getElem? hk
        obtain ⟨p, b, e, gb, ba, b0⟩ := TB.vals _ hm
        cases e
        have tkw : ws.take (i + 1) = ws.take i ++ [(.inl p, .ref b)] := by rw [List.take_succ, hk]; rfl
        have pz : (Sum.inl p : Key) ∉ (ws.take i).map (·.1) := fun z => by
          have nd : ((ws.take (i + 1)).map (·.1)).Nodup := TB.keys.sublist ((List.take_sublist _ _).map _)
          rw [tkw, List.map_append, List.nodup_append] at nd
          exact nd.2.2 _ z _ List.mem_cons_self rfl
        refine ⟨_, rfl, L, rfl, ⟨_, SqL.of (gs sg)⟩, for_list (K := K) (a := L) (xs := rvs) (fun j σ g => ∃ v2 : Option V, σ = [some (.ref L), some (.ref a), v2, some (.int p)] ∧ TabAt c.H0 g a ws (fun q => if q = p then (demM (rows.take j) p, supM (rows.take j) p) else val q) ∧ g a = some (.frz od (.dK ws)) ∧ Kept c.H0 g) ⟨_, rfl, ?_, ga, sg⟩ (fun j σ g _ ⟨_, _, _, _, sm⟩ => SqL.of (gs sm)) ?_ ?_⟩
        · have e : (fun q => if q = p then (demM (rows.take 0) p, supM (rows.take 0) p) else val q) = val := funext fun q => by
            by_cases z : q = p
            · rw [if_pos z, z, zero p pz]
              rfl
            · rw [if_neg z]
          rw [e]
          exact TB
        · rintro j x σ g2 hx ⟨v9, rfl, TC, ga2, s2⟩
          have hj : j < rows.length := by
            rw [← rl]
            exact (List.getElem?_eq_some_iff.mp hx).1
          obtain ⟨r, hr⟩ : ∃ r, rows[j]? = some r := ⟨_, List.getElem?_eq_getElem hj⟩
          obtain ⟨v, e, ar, x1, x2, x5, x7, x8, rfl, hrow⟩ := rat j r hr
          rw [hx] at e
          cases e
          have tk : rows.take (j + 1) = rows.take j ++ [r] := by rw [List.take_succ, hr]; rfl
          have vm := valV_mem TC.keys hm
          have dg : ∀ {g : Hp}, g a = some (.frz od (.dK ws)) → DGet g a (.int p) (some (.ref b)) := fun {g} ga => .inl ⟨ws, .inl p, .inr ⟨od, ga⟩, rfl, vm.symm⟩
          have at_b : ∀ {g : Hp} {val : Int → Int × Int}, TabAt c.H0 g a ws val → g b = some (.lst [.int (val p).1, .int (val p).2]) := fun {g val} t => by
            obtain ⟨q, b', e, e1, _⟩ := t.vals _ hm
            cases e
            exact e1
          have hr9 : ∀ {g : Hp}, Kept c.H0 g → SqT K g ar [x1, x2, .str r.side, .int r.price, x5, .int r.left, x7, x8] := fun {g} k => SqT.of (k _ _ hrow)
          have st : ∀ {g : Hp} {val : Int → Int × Int} (x y : Int), TabAt c.H0 g a ws val → g a = some (.frz od (.dK ws)) → Kept c.H0 g → TabAt c.H0 (upd g b (.lst [.int x, .int y])) a ws (fun q => if q = p then (x, y) else val q) ∧ (upd g b (.lst [.int x, .int y])) a = some (.frz od (.dK ws)) ∧ Kept c.H0 (upd g b (.lst [.int x, .int y])) := fun {g val} x y t ga k => ⟨t.set hm, by rw [upd_ne ba.symm]; exact ga, fun b' o z => by rw [upd_ne (ne_of_none z b0)]; exact k _ _ z⟩
          refine ⟨_, rfl, ar, _, 2, .str r.side, rfl, rfl, hr9 s2, rfl, rfl, _, rfl, ?_⟩
          refine ite2 (fun w1 => ?_) (fun w1 => ?_)
          · refine ⟨_, rfl, ar, _, 3, .int r.price, rfl, rfl, hr9 s2, rfl, _, rfl, r.price, p, rfl, rfl, _, rfl, ?_⟩
            refine ite2 (fun w2 => ?_) (fun w2 => ?_)
            · refine ⟨_, rfl, _, rfl, a, .ref b, rfl, dg ga2, b, _, 0, _, rfl, rfl, SqL.of (at_b TC), rfl, _, rfl, ar, _, 5, .int r.left, rfl, rfl, hr9 s2, rfl, _, _, rfl, rfl, _, rfl, _, rfl, a, .ref b, rfl, dg ga2, b, _, 0, 0, rfl, rfl, at_b TC, rfl, ?_⟩
              obtain ⟨val3, ev3⟩ : ∃ v : Int → Int × Int, v = fun q => if q = p then (demM (rows.take (j + 1)) p, supM (rows.take j) p) else val q := ⟨_, rfl⟩
              have ev : val3 p = (demM (rows.take (j + 1)) p, supM (rows.take j) p) := by rw [ev3]; exact if_pos rfl
              have eo : ∀ q, q ≠ p → val3 q = val q := fun q y => by rw [ev3]; exact if_neg y
              obtain ⟨TD0, ga3, s3⟩ := st ((if p = p then (demM (rows.take j) p, supM (rows.take j) p) else val p).1 + r.left) (if p = p then (demM (rows.take j) p, supM (rows.take j) p) else val p).2 TC ga2 s2
              have TD := TD0.cg (val' := val3) fun q => by
                by_cases y : q = p
                · rw [if_pos y, y, ev, if_pos rfl, tk, dem_snoc, if_pos ⟨side9 w1, of_decide_eq_true w2⟩]
                · rw [if_neg y, if_neg y, eo q y]
              refine ⟨_, rfl, ar, _, 2, .str r.side, rfl, rfl, hr9 s3, rfl, rfl, _, rfl, ?_⟩
              refine ite2 (fun z1 => ?_) (fun z1 => ?_)
              · refine ⟨_, rfl, ar, _, 3, .int r.price, rfl, rfl, hr9 s3, rfl, _, rfl, r.price, p, rfl, rfl, _, rfl, ?_⟩
                refine ite2 (fun z2 => ?_) (fun z2 => ?_)
                · refine ⟨_, rfl, _, rfl, a, .ref b, rfl, dg ga3, b, _, 1, _, rfl, rfl, SqL.of (at_b TD), rfl, _, rfl, ar, _, 5, .int r.left, rfl, rfl, hr9 s3, rfl, _, _, rfl, rfl, _, rfl, _, rfl, a, .ref b, rfl, dg ga3, b, _, 1, 1, rfl, rfl, at_b TD, rfl, ?_⟩
                  obtain ⟨TE9, ga4, s4⟩ := st (val3 p).1 ((val3 p).2 + r.left) TD ga3 s3
                  refine ⟨_, rfl, TE9.cg fun q => ?_, ga4, s4⟩
                  by_cases y : q = p
                  · rw [if_pos y, if_pos y, ev, tk, sup_snoc, if_pos ⟨side9 z1, of_decide_eq_true z2⟩]
                  · rw [if_neg y, if_neg y, eo q y]
                · refine ⟨_, rfl, TD.cg fun q => ?_, ga3, s3⟩
                  by_cases y : q = p
                  · rw [if_pos y, y, ev, tk, sup_snoc, if_neg fun z => z2 (decide_eq_true z.2), Int.add_zero]
                  · rw [if_neg y, eo q y]
              · refine ⟨_, rfl, TD.cg fun q => ?_, ga3, s3⟩
                by_cases y : q = p
                · rw [if_pos y, y, ev, tk, sup_snoc, if_neg fun z => z1 (side8 z.1), Int.add_zero]
                · rw [if_neg y, eo q y]
            · obtain ⟨val3, ev3⟩ : ∃ v : Int → Int × Int, v = fun q => if q = p then (demM (rows.take j) p, supM (rows.take j) p) else val q := ⟨_, rfl⟩
              have ev : val3 p = (demM (rows.take (j + 1)) p, supM (rows.take j) p) := by rw [ev3, tk, dem_snoc, if_neg fun z => w2 (decide_eq_true z.2), Int.add_zero]; exact if_pos rfl
              have eo : ∀ q, q ≠ p → val3 q = val q := fun q y => by rw [ev3]; exact if_neg y
              have ga3 := ga2
              have s3 := s2
              have TD := TC
              rw [← ev3] at TD
              refine ⟨_, rfl, ar, _, 2, .str r.side, rfl, rfl, hr9 s3, rfl, rfl, _, rfl, ?_⟩
              refine ite2 (fun z1 => ?_) (fun z1 => ?_)
              · refine ⟨_, rfl, ar, _, 3, .int r.price, rfl, rfl, hr9 s3, rfl, _, rfl, r.price, p, rfl, rfl, _, rfl, ?_⟩
                refine ite2 (fun z2 => ?_) (fun z2 => ?_)
                · refine ⟨_, rfl, _, rfl, a, .ref b, rfl, dg ga3, b, _, 1, _, rfl, rfl, SqL.of (at_b TD), rfl, _, rfl, ar, _, 5, .int r.left, rfl, rfl, hr9 s3, rfl, _, _, rfl, rfl, _, rfl, _, rfl, a, .ref b, rfl, dg ga3, b, _, 1, 1, rfl, rfl, at_b TD, rfl, ?_⟩
                  obtain ⟨TE9, ga4, s4⟩ := st (val3 p).1 ((val3 p).2 + r.left) TD ga3 s3
                  refine ⟨_, rfl, TE9.cg fun q => ?_, ga4, s4⟩
                  by_cases y : q = p
                  · rw [if_pos y, if_pos y, ev, tk, sup_snoc, if_pos ⟨side9 z1, of_decide_eq_true z2⟩]
                  · rw [if_neg y, if_neg y, eo q y]
                · refine ⟨_, rfl, TD.cg fun q => ?_, ga3, s3⟩
                  by_cases y : q = p
                  · rw [if_pos y, y, ev, tk, sup_snoc, if_neg fun z => z2 (decide_eq_true z.2), Int.add_zero]
                  · rw [if_neg y, eo q y]
              · refine ⟨_, rfl, TD.cg fun q => ?_, ga3, s3⟩
                by_cases y : q = p
                · rw [if_pos y, y, ev, tk, sup_snoc, if_neg fun z => z1 (side8 z.1), Int.add_zero]
                · rw [if_neg y, eo q y]
          · obtain ⟨val3, ev3⟩ : ∃ v : Int → Int × Int, v = fun q => if q = p then (demM (rows.take j) p, supM (rows.take j) p) else val q := ⟨_, rfl⟩
            have ev : val3 p = (demM (rows.take (j + 1)) p, supM (rows.take j) p) := by rw [ev3, tk, dem_snoc, if_neg fun z => w1 (side8 z.1), Int.add_zero]; exact if_pos rfl
            have eo : ∀ q, q ≠ p → val3 q = val q := fun q y => by rw [ev3]; exact if_neg y
            have ga3 := ga2
            have s3 := s2
            have TD := TC
            rw [← ev3] at TD
            refine ⟨_, rfl, ar, _, 2, .str r.side, rfl, rfl, hr9 s3, rfl, rfl, _, rfl, ?_⟩
            refine ite2 (fun z1 => ?_) (fun z1 => ?_)
            · refine ⟨_, rfl, ar, _, 3, .int r.price, rfl, rfl, hr9 s3, rfl, _, rfl, r.price, p, rfl, rfl, _, rfl, ?_⟩
              refine ite2 (fun z2 => ?_) (fun z2 => ?_)
              · refine ⟨_, rfl, _, rfl, a, .ref b, rfl, dg ga3, b, _, 1, _, rfl, rfl, SqL.of (at_b TD), rfl, _, rfl, ar, _, 5, .int r.left, rfl, rfl, hr9 s3, rfl, _, _, rfl, rfl, _, rfl, _, rfl, a, .ref b, rfl, dg ga3, b, _, 1, 1, rfl, rfl, at_b TD, rfl, ?_⟩
                obtain ⟨TE9, ga4, s4⟩ := st (val3 p).1 ((val3 p).2 + r.left) TD ga3 s3
                refine ⟨_, rfl, TE9.cg fun q => ?_, ga4, s4⟩
                by_cases y : q = p
                · rw [if_pos y, if_pos y, ev, tk, sup_snoc, if_pos ⟨side9 z1, of_decide_eq_true z2⟩]
                · rw [if_neg y, if_neg y, eo q y]
              · refine ⟨_, rfl, TD.cg fun q => ?_, ga3, s3⟩
                by_cases y : q = p
                · rw [if_pos y, y, ev, tk, sup_snoc, if_neg fun z => z2 (decide_eq_true z.2), Int.add_zero]
                · rw [if_neg y, eo q y]
            · refine ⟨_, rfl, TD.cg fun q => ?_, ga3, s3⟩
              by_cases y : q = p
              · rw [if_pos y, y, ev, tk, sup_snoc, if_neg fun z => z1 (side8 z.1), Int.add_zero]
              · rw [if_neg y, eo q y]
        · rintro σ g2 ⟨v9, rfl, TC, ga2, s2⟩
          rw [rl, List.take_length] at TC
          refine ⟨_, v9, _, rfl, TC, fun q z => ?_, fun q z => ?_, ga2, s2⟩
          · rw [tkw, List.map_append, List.mem_append] at z
            by_cases y : q = p
            · rw [if_pos y, y]
            · rw [if_neg y]
              refine full q (z.resolve_right fun w => y ?_)
              have w : (Sum.inl q : Key) ∈ [(Sum.inl p : Key)] := w
              exact Sum.inl.inj (List.mem_singleton.mp w)
          · rw [tkw, List.map_append, List.mem_append] at z
            have y : q ≠ p := fun y => z (.inr (by rw [y]; exact List.mem_cons_self))
            rw [if_neg y]
            exact zero q fun w => z (.inl w)
      · rintro σ g ⟨val, v2, v3, rfl, TB, full, zero, ga, sg⟩
        refine ⟨ga, ?_⟩
        have intk : ∀ l : List (Key × V), (∀ kv ∈ l, ∃ p : Int, kv.1 = .inl p) → ∃ ks : List Int, l.map (·.1) = ks.map (Sum.inl : Int → Key) := fun l => by
          induction l with
          | nil => exact fun _ => ⟨[], rfl⟩
          | cons u l ih =>
            intro w
            obtain ⟨p, e⟩ := w u List.mem_cons_self
            obtain ⟨ks, e2⟩ := ih fun x hx => w x (List.mem_cons_of_mem _ hx)
            exact ⟨p :: ks, by rw [List.map_cons, List.map_cons, e, e2]⟩
        obtain ⟨ks, eks⟩ := intk ws fun kv hk => by
          obtain ⟨p, b, e, _⟩ := TB.vals kv hk
          exact ⟨p, by rw [e]⟩
        have lks : ks.length ≤ 1000 := by
          have := congrArg List.length eks
          rw [List.length_map, List.length_map] at this
          omega
        rw [rl, List.take_length] at mem
        have mi : ∀ (l : List Int) (x : Int), (Sum.inl x : Key) ∈ l.map (Sum.inl : Int → Key) ↔ x ∈ l := fun l x => by
          constructor
          · intro z
            obtain ⟨y, hy, e⟩ := List.mem_map.mp z
            cases e
            exact hy
          · exact fun z => List.mem_map.mpr ⟨x, z, rfl⟩
        have mk : ∀ x : Int, x ∈ ks ↔ x ∈ rows.map Row.price := fun x => by rw [← mi ks x, ← eks, mem, mi]
        have ndk : ks.Nodup := by
          have := TB.keys
          rw [eks] at this
          exact (List.pairwise_map.mp this).imp fun {a b} ne e => ne (congrArg Sum.inl e)
        refine ⟨_, rfl, a, ws, ks, rfl, .inl upd_same, eks, by omega, fun out q pm so nq => ?_⟩
        have hP : PricesOk rows out := by
          refine ⟨?_, fun k => (pm.mem_iff).trans (mk k)⟩
          have nd : out.Nodup := pm.nodup_iff.mpr ndk
          exact (List.pairwise_and_iff.mpr ⟨so, nd⟩).imp fun {a b} ⟨h1, h2⟩ => by
            have : a ≠ b := h2
            omega
        rw [prices_uniq hP (pricesM_ok rows)]
        have aq : a ≠ q := fun e => by rw [← e, upd_same] at nq; cases nq
        obtain ⟨HQ, eQ⟩ : ∃ HQ, HQ = upd (upd g a (.dK ws)) q (.lst ((pricesM rows).map V.int)) := ⟨_, rfl⟩
        have qa : HQ a = some (.dK ws) := by rw [eQ, upd_ne aq, upd_same]
        have qq : HQ q = some (.lst ((pricesM rows).map V.int)) := by rw [eQ, upd_same]
        have kq : Kept c.H0 HQ := fun b' o z => by
          have e := sg _ _ z
          have nz : b' ≠ a := fun w => by rw [w, na] at z; cases z
          have nz2 : b' ≠ q := fun w => by rw [w] at e nz; rw [upd_ne nz, e] at nq; cases nq
          rw [eQ, upd_ne nz2, upd_ne nz]
          exact e
        have qb : ∀ p, p ∈ pricesM rows → ∃ b, valV ws (.inl p) = some (.ref b) ∧ HQ b = some (.lst [.int (demM rows p), .int (supM rows p)]) := fun p hp => by
          have hk : (Sum.inl p : Key) ∈ ws.map (·.1) := by
            rw [eks, mi, mk]
            exact ((pricesM_ok rows).2 p).mp hp
          obtain ⟨kv, hkv, e⟩ := List.mem_map.mp hk
          obtain ⟨p', b, e1, e2, e3, _⟩ := TB.vals kv hkv
          subst e1
          cases e
          refine ⟨b, valV_mem TB.keys hkv, ?_⟩
          have nbq : b ≠ q := fun w => by rw [w] at e2 e3; rw [upd_ne e3, e2] at nq; cases nq
          rw [eQ, upd_ne nbq, upd_ne e3, e2, full p (by rw [List.take_length]; exact List.mem_map.mpr ⟨_, hkv, rfl⟩)]
        rw [← eQ]
        clear eQ
        refine ⟨q, rfl, ⟨_, SqL.of qq⟩, fun D nD => lc_list (K := K) (a := q) (xs := (pricesM rows).map V.int) (fun i H2 => Kept HQ H2 ∧ ∃ vs : List V, H2 D = some (.lst vs) ∧ vs.length = i ∧ ∀ j p, j < i → (pricesM rows)[j]? = some p → ∃ t, vs[j]? = some (.ref t) ∧ H2 t = some (.tup [.int p, .int (demM rows p), .int (supM rows p)]) ∧ t ≠ D ∧ HQ t = none)
          ⟨kept_new nD, [], upd_same, rfl, fun j p w _ => (by omega)⟩ (fun i H2 _ h => SqL.of (h.1 _ _ qq)) ?_ ?_⟩
        · rintro i x H2 hx ⟨k2, vs, hD, hl2, all⟩
          rw [List.getElem?_map] at hx
          cases hp : (pricesM rows)[i]? with
          | none => rw [hp] at hx; cases hx
          | some p =>
          rw [hp] at hx
          cases hx
          obtain ⟨b, vb, hb⟩ := qb p (List.mem_of_getElem? hp)
          have hb2 := k2 _ _ hb
          have dg : DGet H2 a (.int p) (some (.ref b)) := .inl ⟨ws, .inl p, .inl (k2 _ _ qa), rfl, vb.symm⟩
          have nDa : D ≠ a := fun w => by rw [w, qa] at nD; cases nD
          refine ⟨rfl, yesC ⟨_, rfl, _, rfl, _, rfl, a, .ref b, rfl, dg, b, _, 0, _, rfl, rfl, SqL.of hb2, rfl, _, rfl, _, rfl, a, .ref b, rfl, dg, b, _, 1, _, rfl, rfl, SqL.of hb2, rfl, (by show 3 ≤ sizeLine; decide), fun t nt => ?_⟩⟩
          have nt : H2 t = none := nt
          have tD : t ≠ D := fun w => by rw [w, hD] at nt; cases nt
          have tQ : HQ t = none := by
            cases z : HQ t with
            | none => rfl
            | some o => rw [k2 _ _ z] at nt; cases nt
          have few := (pricesM_ok rows).few
          have hi : i < (pricesM rows).length := (List.getElem?_eq_some_iff.mp hp).1
          refine ⟨vs, by rw [upd_ne tD.symm]; exact hD, Nat.lt_of_lt_of_le (show vs.length < 2000 by omega) (by decide), fun b' o z => ?_, vs ++ [.ref t], upd_same, by rw [List.length_append, hl2]; rfl, fun j p' hj hp' => ?_⟩
          · have n1 : b' ≠ D := fun w => by rw [w, nD] at z; cases z
            rw [upd_ne n1, upd_ne (ne_of_none z tQ)]
            exact k2 _ _ z
          · by_cases y : j < i
            · obtain ⟨t', e1, e2, e3, e4⟩ := all j p' y hp'
              refine ⟨t', by rw [List.getElem?_append_left (by omega)]; exact e1, ?_, e3, e4⟩
              rw [upd_ne e3, upd_ne (ne_of_none e2 nt)]
              exact e2
            · have ej : j = i := by omega
              subst ej
              rw [hp] at hp'
              cases hp'
              refine ⟨t, by rw [← hl2]; simp, ?_, tD, tQ⟩
              rw [upd_ne tD, upd_same]
        · rintro H2 ⟨k2, vs, hD, hl2, all⟩
          rw [List.length_map] at hl2 all
          have d0 : c.H0 D = none := by
            cases z : c.H0 D with
            | none => rfl
            | some o => rw [kq _ _ z] at nD; cases nD
          refine kk (.ref D) (.own ((stepsM rows).map Stp.dat)) n H2 hq (Fr.same gG fun p o e => k2 _ _ (kq _ _ e)) ⟨D, vs, rfl, .of d0, hD, rpa_of (by unfold stepsM; rw [List.length_map, List.length_map]; exact hl2) fun j v d e1 e2 => ?_⟩
          unfold stepsM at e2
          rw [List.getElem?_map, List.getElem?_map] at e2
          cases hp : (pricesM rows)[j]? with
          | none => rw [hp] at e2; cases e2
          | some p =>
          rw [hp] at e2
          cases e2
          obtain ⟨t, f1, f2, f3, f4⟩ := all j p (List.getElem?_eq_some_iff.mp hp).1 hp
          rw [e1] at f1
          cases f1
          refine .tup (by rw [msk_out fun z => z.elim (fun z => ?_) f3]; exact f2) (.cons (.int _) (.cons (.int _) (.cons (.int _) .nil)))
          obtain ⟨o, q1, _⟩ := c.Bs t z
          rw [kq _ _ q1] at f4
          cases f4
end

end
section
variable [Tabz]
local macro_rules | `(tactic| walk_at "d") => `(tactic| first | refine Or.inl ⟨_, rfl, ?_⟩ | refine Or.inr ⟨rfl, ?_⟩ | refine ⟨Nat.le_of_ble_eq_true rfl, ?_⟩ | refine ⟨⟨_, rfl⟩, ?_⟩ | refine ⟨_, rfl, ?_⟩ | refine ⟨_, _, rfl, ?_⟩ | refine ⟨_, _, _, rfl, ?_⟩ | refine ⟨_, _, _, _, rfl, ?_⟩)
theorem L_law_worth : ∀ rs n Q, mLawWorth rs n Q → plainR rs ∧ rs.length = 2 := by
  rintro rs n Q ⟨r, s, rfl, h⟩
  exact plain2
abbrev s_law_worth : Stmt := topS 13
theorem sc_law_worth : FnScope ["rows", "price", "total", "row", "apart"] ["rows", "price"] (defScope s_law_worth) := ⟨rfl, rfl, rfl, by decide +kernel, rfl, by decide +kernel, by decide +kernel⟩
theorem ok_law_worth {f : Addr} {fd : FuncData} (F : Fun K "_law_worth" "_law_worth" s_law_worth f fd) (T : Txt mg) : FnOk P w K mg base CX0 1 f fd ["rows", "price"] (spD mLawWorth) := by
  apply okD F sc_law_worth L_law_worth
  case body =>
    intro cdv A outer s H E hr
    exact (psCons (psSet (i := 2) sc_law_worth.nd rfl (Or.inl rfl) (pdC pe_int))
          (psCons (psFor PassesOwn.never rfl (piList (pdV (pv 0))) (pgN (pg_name (i := 3) sc_law_worth.nd rfl (Or.inl rfl)))
           (psCons (psSet (i := 4) sc_law_worth.nd rfl (Or.inl rfl) (pdOp r2Sub op_sub (pdIx r2IxT ix_tup (pdV (pv 3)) (pdC pe_int) (fun _ _ => rfl)) (pdV (pv 1))))
            (psCut (psIf (ptCmp r2Eq op_eq (pdIx r2IxT ix_tup (pdV (pv 3)) (pdC pe_int) (fun _ _ => rfl)) (pdC pe_str) (nomark _)) (psOne (psSet (i := 4) sc_law_worth.nd rfl (Or.inl rfl) (pdOp r2Sub op_sub (pdV (pv 1)) (pdIx r2IxT ix_tup (pdV (pv 3)) (pdC pe_int) (fun _ _ => rfl))))) psNil)
            (psOne (psIf (ptCmp r2Gt op_gt (pdV (pv 4)) (pdC pe_int) (nomark _)) (psOne (psSet (i := 2) sc_law_worth.nd rfl (Or.inl rfl) (pdOp r2Add op_add (pdV (pv 2)) (pdOp r2Mul op_mulW (pdV (pv 4)) (pdIx r2IxT ix_tup (pdV (pv 3)) (pdC pe_int) (fun _ _ => rfl)))))) psNil)))))
          (psOne (psRet (pdV (pv 2))))))
  case data =>
    rintro rs n Q ⟨rows, p, rfl, cc, h⟩
    obtain ⟨⟨hr0, hp0, hp1⟩, hsd⟩ := cc.get
    repeat walk_at "d"
    refine ⟨fun i ρ m => m = n ∧ ∃ j3 j4 : DV, ρ = [.d (dRows rows), .d (.int p), .d (.int (worthM (rows.take i) p)), j3, j4], ⟨rfl, .un, .un, rfl⟩, ?_, ?_⟩
    · rintro i d ρ m hd ⟨rfl, j3, j4, rfl⟩
      rw [List.getElem?_map] at hd
      cases hr : rows[i]? with
      | none => rw [hr] at hd; cases hd
      | some r =>
      rw [hr] at hd
      cases hd
      have et : rows.take (i + 1) = rows.take i ++ [r] := by rw [List.take_succ, hr]; rfl
      have hok := hr0 r (List.mem_of_getElem? hr)
      have hs := hsd r (List.mem_of_getElem? hr)
      have nsb : ¬ (("sell" : Str) = "buy") := by decide +kernel
      have nbs : ¬ (("buy" : Str) = "sell") := by decide +kernel
      repeat walk_at "d"
      refine ⟨fun ρ m2 => m2 = m ∧ ρ = [.d (dRows rows), .d (.int p), .d (.int (worthM (rows.take i) p)), .d r.dat, .d (.int (gainM r p))], ?_, ?_⟩
      · repeat walk_at "d"
        refine ite2 (fun q => ?_) (fun q => ?_)
        · have q : r.side = ("sell" : Str) := of_decide_eq_true q
          have eg : gainM r p = p - r.price := if_neg (by rw [q]; exact nsb)
          repeat walk_at "d"
          rw [eg]
          exact ⟨rfl, rfl⟩
        · have q : ¬ r.side = ("sell" : Str) := fun z => q (decide_eq_true z)
          have eg : gainM r p = r.price - p := if_pos (hs.resolve_right q)
          repeat walk_at "d"
          rw [eg]
          exact ⟨rfl, rfl⟩
      · rintro ρ m2 ⟨rfl, rfl⟩
        repeat walk_at "d"
        have ep : -(2 ^ 61) ≤ gainM r p ∧ gainM r p < 2 ^ 61 := by unfold gainM; split <;> omega
        refine ite2 (fun q => ?_) (fun q => ?_)
        · have q : gainM r p > 0 := of_decide_eq_true q
          repeat walk_at "d"
          refine ⟨_, if_pos (decide_eq_true (mulW ⟨by omega, by omega⟩ hok.1)), ?_⟩
          repeat walk_at "d"
          refine ⟨rfl, .d r.dat, .d (.int (gainM r p)), ?_⟩
          rw [et, worth_snoc, show posM (gainM r p) = gainM r p from if_pos q, Int.mul_comm r.left]
          rfl
        · have q : ¬ gainM r p > 0 := fun z => q (decide_eq_true z)
          repeat walk_at "d"
          refine ⟨rfl, .d r.dat, .d (.int (gainM r p)), ?_⟩
          rw [et, worth_snoc, show posM (gainM r p) = 0 from if_neg q, Int.mul_zero, Int.add_zero]
    · rintro ρ m ⟨rfl, j3, j4, rfl⟩
      rw [List.length_map, List.take_length]
      exact .inl ⟨_, rfl, h⟩

end
section
variable [Tabz]
local macro_rules | `(tactic| walk_at "d") => `(tactic| first | refine Or.inl ⟨_, rfl, ?_⟩ | refine Or.inr ⟨rfl, ?_⟩ | refine ⟨Nat.le_of_ble_eq_true rfl, ?_⟩ | refine ⟨⟨_, rfl⟩, ?_⟩ | refine ⟨_, rfl, ?_⟩ | refine ⟨_, _, rfl, ?_⟩ | refine ⟨_, _, _, rfl, ?_⟩ | refine ⟨_, _, _, _, rfl, ?_⟩)
/-! ### tables of rows: the law -/
def spLaw (K : PySem.W.Frag) : Sp := fun vs H Q _ => ∃ (a : Addr) (ns : List Int), vs = [.ref a] ∧ SqL K H a (ns.map V.int) ∧ ns.length ≤ 63 ∧ LamX.Tabs Tabz.T H ∧ ∀ H', Q (.bl true) H'
theorem sum_bound {B : Int} (hB : 0 ≤ B) : ∀ {l : List Row}, (∀ r ∈ l, r.left ≤ B) → (l.map Row.left).sum ≤ B * l.length
  | [], _ => by show (0 : Int) ≤ B * ((0 : Nat) : Int); rw [Int.mul_comm]; show (0 : Int) ≤ 0 * B; rw [Int.zero_mul]; exact Int.le_refl _
  | r :: l, h => by
    have h1 := sum_bound hB fun x hx => h x (List.mem_cons_of_mem _ hx)
    have h2 := h r List.mem_cons_self
    rw [List.map_cons, List.sum_cons, List.length_cons, Int.natCast_add, Int.mul_add]
    show r.left + _ ≤ B * (l.length : Int) + B * 1
    rw [Int.mul_one]
    omega
theorem stp_lay : ∀ st : List Stp, PyData.canLayAll0 (st.map Stp.dat) = true
  | [] => rfl
  | p :: st => by
    show (PyData.canLay0 p.dat && PyData.canLayAll0 (st.map Stp.dat)) = true
    rw [stp_lay st]
    rfl
theorem stp_depth : ∀ st : List Stp, PyData.depthAll (st.map Stp.dat) ≤ 2
  | [] => by show 0 ≤ 2; omega
  | p :: st => by
    have := stp_depth st
    have e : PyData.depthAll ((p :: st).map Stp.dat) = max (PyData.depth p.dat) (PyData.depthAll (st.map Stp.dat)) := rfl
    have d : PyData.depth p.dat ≤ 2 := by show _ ≤ 2; simp [Stp.dat, PyData.depth, PyData.depthAll]
    rw [e]
    omega
theorem stp_shaped (st : List Stp) : SeqAt.shaped (.list (st.map Stp.dat)) = true := by
  have := stp_depth st
  refine shaped_of ?_ ?_
  · simp only [PyData.canLay0]
    exact stp_lay st
  · simp only [PyData.depth]
    omega
theorem tup3_fit {a b c : Int} (h1 : a.natAbs < 2 ^ 256) (h2 : b.natAbs < 2 ^ 256) (h3 : c.natAbs < 2 ^ 256) : (PyData.tuple [.int a, .int b, .int c]).showable = true ∧ (PyData.tuple [.int a, .int b, .int c]).hasDict = false ∧ (PyData.tuple [.int a, .int b, .int c]).depth ≤ 3 ∧ (PyData.tuple [.int a, .int b, .int c]).canLay0 = true ∧ (PyData.tuple [.int a, .int b, .int c]).intsShort 300 = true ∧ (PyData.tuple [.int a, .int b, .int c]).weight ≤ 2000 := by
  obtain ⟨a1, a2⟩ := int_short h1
  obtain ⟨b1, b2⟩ := int_short h2
  obtain ⟨c1, c2⟩ := int_short h3
  have lg : ∀ i : Int, i.natAbs < 2 ^ 256 → i.natAbs.log2 < 256 := fun i h => by
    by_cases z : i.natAbs = 0
    · rw [z]
      decide
    · exact (Nat.log2_lt z).mpr h
  have l1 := lg a h1
  have l2 := lg b h2
  have l3 := lg c h3
  refine ⟨?_, rfl, ?_, rfl, ?_, ?_⟩
  · simp only [PyData.showable, PyData.showableAll] at a2 b2 c2 ⊢
    simp [a2, b2, c2]
  · simp [PyData.depth, PyData.depthAll]
  · simp only [PyData.intsShort, PyData.intsShortAll] at a1 b1 c1 ⊢
    simp [a1, b1, c1]
  · simp only [PyData.weight, PyData.weightAll]
    split <;> split <;> split <;> omega
theorem steps_fit {rows : List Row} (h : RowsT rows 14) (hl : (rows.length : Int) ≤ 14) : ReprOk (.list ((stepsM rows).map Stp.dat)) := by
  have few := (pricesM_ok rows).few
  have le : ∀ r ∈ rows, r.left ≤ 10 ^ 9 := fun r hr => by
    obtain ⟨b, s, m, _, hm, hT⟩ := h.row r hr
    have := hT.1.2
    omega
  have bound : ∀ q : Row → Bool, 0 ≤ ((rows.filter q).map Row.left).sum ∧ ((rows.filter q).map Row.left).sum ≤ 10 ^ 9 * 14 := fun q => by
    have h1 : ((rows.filter q).map Row.left).sum ≤ 10 ^ 9 * ((rows.filter q).length : Int) := sum_bound (by decide) fun r hr => le r (List.mem_filter.mp hr).1
    have h2 := List.length_filter_le q rows
    have h3 : ∀ l : List Row, (∀ r ∈ l, 0 ≤ r.left) → 0 ≤ (l.map Row.left).sum := fun l => by
      induction l with
      | nil => exact fun _ => Int.le_refl _
      | cons x l ih =>
        intro q
        have := ih fun r hr => q r (List.mem_cons_of_mem _ hr)
        have := q x List.mem_cons_self
        rw [List.map_cons, List.sum_cons]
        omega
    exact ⟨h3 _ fun r hr => (h.seen r (List.mem_filter.mp hr).1).2, by omega⟩
  refine repr_rows (B := 2000) (Nat.le_refl _) (fun d hd => ?_) (by unfold stepsM; rw [List.length_map, List.length_map]; omega)
  obtain ⟨c, hc, rfl⟩ := List.mem_map.mp hd
  unfold stepsM at hc
  obtain ⟨p, hp, rfl⟩ := List.mem_map.mp hc
  obtain ⟨r, hr, er⟩ := List.mem_map.mp (((pricesM_ok rows).2 p).mp hp)
  have := (h.l r hr).2
  have b1 := bound fun r => decide (r.side = ("buy" : Str)) && decide (p ≤ r.price)
  have b2 := bound fun r => decide (r.side = ("sell" : Str)) && decide (r.price ≤ p)
  have e1 : 0 ≤ demM rows p ∧ demM rows p ≤ 10 ^ 9 * 14 := b1
  have e2 : 0 ≤ supM rows p ∧ supM rows p ≤ 10 ^ 9 * 14 := b2
  exact tup3_fit (a := p) (b := demM rows p) (c := supM rows p) (by omega) (by omega) (by omega)
theorem worth_fit {rows : List Row} {p : Int} : (∀ r ∈ rows, (0 ≤ r.left ∧ r.left ≤ 10 ^ 9) ∧ (1 ≤ r.price ∧ r.price ≤ 1000000)) → 1 ≤ p → p ≤ 1000000 → 0 ≤ worthM rows p ∧ worthM rows p ≤ 10 ^ 15 * rows.length := by
  induction rows with
  | nil => exact fun _ _ _ => ⟨Int.le_refl _, Int.le_refl _⟩
  | cons r l ih =>
    intro h h1 h2
    obtain ⟨a, b⟩ := ih (fun x hx => h x (List.mem_cons_of_mem _ hx)) h1 h2
    obtain ⟨c, d⟩ := h r List.mem_cons_self
    have e : worthM (r :: l) p = r.left * posM (gainM r p) + worthM l p := by unfold worthM; rw [List.map_cons, List.sum_cons]
    have g : 0 ≤ posM (gainM r p) ∧ posM (gainM r p) ≤ 10 ^ 6 := by unfold posM gainM; split <;> split <;> omega
    have m1 : 0 ≤ r.left * posM (gainM r p) := Int.mul_nonneg c.1 g.1
    have m2 : r.left * posM (gainM r p) ≤ 10 ^ 9 * 10 ^ 6 := Int.mul_le_mul c.2 g.2 g.1 (by decide)
    rw [e, List.length_cons]
    omega
def moreW (p : Int) : PyData → Bool
  | .int k => decide (1 ≤ p + k) && decide (p + k ≤ 1000000)
  | _ => false
def moreO (p : Int) : PyData → PyData
  | .int k => .int (p + k)
  | d => d
theorem more_dat (p : Int) : (([.int (-1), .int 0, .int 1] : List PyData).filter (moreW p)).map (moreO p) = ((([-1, 0, 1] : List Int).filter fun k => decide (1 ≤ p + k) && decide (p + k ≤ 1000000)).map fun k => p + k).map PyData.int := by
  show ((([-1, 0, 1] : List Int).map PyData.int).filter (moreW p)).map (moreO p) = _
  rw [List.filter_map, List.map_map, List.map_map]
  rfl
section
variable {P : Program} {w : World} {K : PySem.W.Frag} {mg : Str → Option Value} {base : Heap}
abbrev s_law : Stmt := topS 14
theorem sc_law : FnScope ["script", "start", "tape", "rows", "handed", "due", "again", "found", "some", "row", "price", "told", "more"] ["script"] (defScope s_law) := ⟨rfl, rfl, rfl, by decide +kernel, rfl, by decide +kernel, by decide +kernel⟩
set_option maxHeartbeats 1600000 in
theorem ok_law {f : Addr} {fd : FuncData} (F : Fun K "law" "law" s_law f fd) (T : Txt mg) (c_tape : Cal P w K mg base 1 "_law_tape" ["script", "start"] (spTape K)) (c_digit : Cal P w K mg base 1 "_law_digit" ["tape", "many"] (spD mDigit)) (c_rows : Cal P w K mg base 3 "_law_rows" ["tape", "most_rows"] (spD mRowsT))
    (c_table : Cal P w K mg base 2 "table" ["rows"] (spD mTable)) (c_law_table : Cal P w K mg base 1 "_law_table" ["rows"] (spD mLawTable)) (c_worth : Cal P w K mg base 1 "worth" ["rows", "price"] (spD mWorth)) (c_law_worth : Cal P w K mg base 1 "_law_worth" ["rows", "price"] (spD mLawWorth)) : FnAt P w K mg base CX0 callerA f fd ["script"] (spLaw K) := by
  refine Fun.at_ F (k := 4) ⟨rfl, by decide, by decide⟩ sc_law (fun vs H Q E h => ?_) (fun cdv outer s H vs Q E hr h => ?_)
  · obtain ⟨a, ns, rfl, _⟩ := h
    rfl
  · obtain ⟨a, ns, rfl, hS, hlen, hT, k⟩ := h
    obtain ⟨f_digit, fd_digit, G_digit, m_digit, k_digit, b_digit⟩ := c_digit
    obtain ⟨f_rows, fd_rows, G_rows, m_rows, k_rows, b_rows⟩ := c_rows
    obtain ⟨f_law_table, fd_law_table, G_law_table, m_law_table, k_law_table, b_law_table⟩ := c_law_table
    obtain ⟨f_tape, fd_tape, G_tape, m_tape, k_tape, b_tape⟩ := c_tape
    obtain ⟨f_law_worth, fd_law_worth, G_law_worth, m_law_worth, k_law_worth, b_law_worth⟩ := c_law_worth
    obtain ⟨f_table, fd_table, G_table, m_table, k_table, b_table⟩ := c_table
    obtain ⟨f_worth, fd_worth, G_worth, m_worth, k_worth, b_worth⟩ := c_worth
    refine ⟨_, (pss_cons (ps_for PassesOwn.never rfl (pi_range1 rfl T.b_range (pa_cons (pe_callB (call_max2 rfl) (by rfl) T.b_max (by decide +kernel) (pa_cons pe_int (pa_cons (pe_callB (call_min2 rfl) (by rfl) T.b_min (by decide +kernel) (pa_cons pe_int (pa_cons (pe_callB call_len_seq (by rfl) T.b_len PySem.boot_len (pa_cons (pv 0) pa_nil)) pa_nil))) pa_nil))) pa_nil)) (pg_name (i := 1) sc_law.nd rfl (Or.inl rfl))
          (pss_cons (ps_set (i := 2) sc_law.nd rfl (Or.inl rfl) (pe_call G_tape (hr.mono (by decide)) rfl m_tape k_tape b_tape .nil pass0 (pa_cons (pv 0) (pa_cons (pv 1) pa_nil))))
            (psCons (psSet (i := 3) sc_law.nd rfl (Or.inl rfl) (pdCall (fun _ _ _ q => (L_rows _ _ _ q).1) G_rows (hr.mono (by decide)) (by rfl) m_rows k_rows b_rows pass0 (paCons (pdV (pv 2)) (paCons (pdC pe_int) paNil))))
            (psFrz 3 (psCons (psSet (i := 4) sc_law.nd rfl (Or.inl rfl) (pdTy rsList call_list_of (by rfl) T.b_list (by decide +kernel) (paCons (pdV (pv 3)) paNil)))
            (psCons (psSet (i := 5) sc_law.nd rfl (Or.inl rfl) (pdReprL (pe_callB (call_reprD rfl hr.units) (by rfl) T.b_repr (by decide +kernel) (pa_cons (pdCall (fun _ _ _ q => (L_law_table _ _ _ q).1) G_law_table (hr.mono (by decide)) (by rfl) m_law_table k_law_table b_law_table pass0 (paCons (pdV (pv 3)) paNil)) pa_nil))))
            (psFrz 4 (psCons (psFor PassesOwn.never rfl (piRng (pi_range1 (by rfl) T.b_range (paCons (pdC pe_int) paNil))) (pgN (pg_name (i := 6) sc_law.nd rfl (Or.inl rfl)))
             (psCons (psSet (i := 7) sc_law.nd rfl (Or.inl rfl) (pdCall (fun _ _ _ q => (L_table _ _ _ q).1) G_table (hr.mono (by decide)) (by rfl) m_table k_table b_table pass0 (paCons (pdV (pv 4)) paNil)))
              (psCons (psIf (ptPk (PW.pt (pwOr (ptCmp r2Ne op_ne (pdReprL (pe_callB (call_reprD rfl hr.units) (by rfl) T.b_repr (by decide +kernel) (pa_cons (pdV (pv 7)) pa_nil))) (pdV (pv 5)) (nomark _)) (pwOr1 (ptCmp r2NeD (op_neD hr.units) (pdV (pv 4)) (pdV (pv 3)) (nomark _)))))) (psOne (psRet (pdC pe_bl))) psNil)
              (psCons (psApp (by rfl) (pe_bm PySem.F.plainAttrs_list PySem.F.slot_list_append PySem.F.type_list_append mt_append (pv 7) (pa_cons (pdC pe_int) pa_nil)))
              (psOne (psIf (ptCmp r2NeD (op_neD hr.units) (pdV (pv 4)) (pdV (pv 3)) (nomark _)) (psOne (psRet (pdC pe_bl))) psNil))))))
            (psCut (psSet (i := 8) sc_law.nd rfl (Or.inl rfl) (pdCold (pdLst (paCons (pdOp r2Add op_add (pdC pe_int) (pdCall (fun _ _ _ q => (L_digit _ _ _ q).1) G_digit (hr.mono (by decide)) (by rfl) m_digit k_digit b_digit pass0 (paCons (pdV (pv 2)) (paCons (pdC pe_int) paNil)))) (paCons (pdC pe_int) (paCons (pdC pe_int) paNil))))))
            (psCons (psFor PassesOwn.never rfl (piList (pdSl slLD sl_list (pdV (pv 3)) poNone (poSome (pdC pe_int)))) (pgN (pg_name (i := 9) sc_law.nd rfl (Or.inr rfl)))
             (psOne (psSet (i := 8) sc_law.nd rfl (Or.inl rfl) (pdCold (pdOp r2Cat op_cat (pdV (pv 8)) ((pe_lc (own := [("more", 12)]) rfl sc_law.nd (piTup (pdTup (paCons (pdUn r1Neg un_neg (pdC pe_int)) (paCons (pdC pe_int) (paCons (pdC pe_int) paNil))))) (blkOk_by (N := ["script", "start", "tape", "rows", "handed", "due", "again", "found", "some", "row", "price", "told", "more"]) (sc := defScope s_law) (by decide +kernel)) (fun _ _ _ _ _ => (pgN (pg_name (i := 12) sc_law.nd rfl (Or.inl rfl)))) (fun _ _ _ _ _ => (pts_one (ptChain r2Le r2Le op_le op_le (pdC pe_int) (pdOp r2Add op_add (pdIx r2IxT ix_tup (pdV (pv 9)) (pdC pe_int) (fun _ _ => rfl)) (pdV (pv 12))) (pdC pe_int)))) (fun _ _ _ _ _ => (pdOp r2Add op_add (pdIx r2IxT ix_tup (pdV (pv 9)) (pdC pe_int) (fun _ _ => rfl)) (pdV (pv 12))))).imp (lc_le (by decide) (fun _ _ _ q => q))))))))
            (psOne (psFor PassesOwn.never rfl (piList (pdV (pv 8))) (pgN (pg_name (i := 10) sc_law.nd rfl (Or.inl rfl)))
             (psCons (psSet (i := 11) sc_law.nd rfl (Or.inl rfl) (pdCall (fun _ _ _ q => (L_worth _ _ _ q).1) G_worth (hr.mono (by decide)) (by rfl) m_worth k_worth b_worth pass0 (paCons (pdV (pv 4)) (paCons (pdV (pv 10)) paNil))))
              (psOne (psIf (PW.pt (pwOr (ptCmp r2Ne op_ne (pdReprI (pe_callB SkE.call_repr_int (by rfl) T.b_repr (by decide +kernel) (pa_cons (pdV (pv 11)) pa_nil))) (pdReprI (pe_callB SkE.call_repr_int (by rfl) T.b_repr (by decide +kernel) (pa_cons (pdCall (fun _ _ _ q => (L_law_worth _ _ _ q).1) G_law_worth (hr.mono (by decide)) (by rfl) m_law_worth k_law_worth b_law_worth pass0 (paCons (pdV (pv 3)) (paCons (pdV (pv 10)) paNil))) pa_nil))) (nomark _)) (pwOr1 (ptCmp r2NeD (op_neD hr.units) (pdV (pv 4)) (pdV (pv 3)) (nomark _))))) (psOne (psRet (pdC pe_bl))) psNil)))))))))))))))
          (pss_one (ps_ret pe_bl))), ?_⟩
    have hl' : ((ns.map V.int).length : Int) = (ns.length : Int) := by rw [List.length_map]
    refine ⟨_, rfl, _, _, rfl, .inl hS, _, _, rfl, _, _, rfl, _, rfl, ?lo, ?hi, ?_⟩
    case lo => rw [hl']; split <;> split <;> omega
    case hi => rw [hl']; split <;> split <;> omega
    rw [hl']
    refine for_range (lo := 0) (fun i σ H' => (∃ t1 t2 t3 t4 t5 t6 t7 t8 t9 t10 t11 t12, σ = [some (.ref a), t1, t2, t3, t4, t5, t6, t7, t8, t9, t10, t11, t12]) ∧ LamX.ExtN H H' ∧ LamX.Tabs Tabz.T H') ⟨⟨_, _, _, _, _, _, _, _, _, _, _, _, rfl⟩, LamX.ExtN.refl H, hT⟩ ?_ ?_
    case refine_2 =>
      rintro σ H1 ⟨_, x1, tb1⟩
      exact k H1
    rintro i σ H1 hi ⟨⟨t1, t2, t3, t4, t5, t6, t7, t8, t9, t10, t11, t12, rfl⟩, x1, tb1⟩
    have hi8 : (0 : Int) + (i : Int) < 64 := by
      have h3 := hi
      revert h3
      split <;> split <;> intro h3 <;> omega
    refine ⟨_, rfl, _, rfl, a, ns, _, rfl, extN_L x1 hS, hlen, by omega, hi8, fun p H2 np s2 u2 => ?_⟩
    have tb2 : LamX.Tabs Tabz.T H2 := tb1.ext s2
    have u3 := u2
    obtain ⟨_, _, hxp, _⟩ := u3
    refine ⟨{ H0 := H2, B := fun b => b = p, t := .ref p, u := .non, pins := [], PB := fun b e => by cases e; rfl, Bs := fun b e => by rw [e]; exact ⟨_, hxp, fun ps z => by cases z⟩ }, fun _ => none, 0, [.raw (.ref a), .un, .tape, .un, .un, .un, .un, .un, .un, .un, .un, .un, .un], { nx := fun ρ _ => ρ[0]? = some (.raw (.ref a)) ∧ ρ.length = 13, rt := fun _ _ => False }, ?env, ?data, ?link⟩
    case env =>
      refine ⟨fun b o _ _ e => e, ⟨fun b e => by cases e; exact u2, tb2⟩, fun i a e => (by cases e), fun i a e => (by cases e), fun i j a e => (by cases e), fun i x e => ?_, rfl, fun q hq => (by cases hq), ⟨0, fun _ _ => rfl⟩, fun i a x e => (by cases e)⟩
      match i, e with
      | 0, e => cases e; exact rfl
      | 1, e => cases e; exact True.intro
      | 2, e => cases e; exact ⟨rfl, p, rfl⟩
      | i + 3, e =>
        have e' : (List.replicate 10 DV.un)[i]? = some x := e
        rw [List.getElem?_replicate] at e'
        split at e'
        · cases e'; exact True.intro
        · cases e'
    case link =>
      refine ⟨fun A n σ H' ρ h e => ?_, fun v r n H' h => h.elim, fun A n σ H' ρ h => h.elim, fun A n σ H' ρ h => h.elim⟩
      have hs := e.slot 0 _ h.1
      have hl : σ.length = 13 := by rw [← e.len]; exact h.2
      have hs' : σ[0]? = some (some (.ref a)) := hs
      refine ⟨?_, fun b o hb hn => ?_, e.g.2⟩
      · match σ, hl, hs' with
        | [x0, x1, x2, x3, x4, x5, x6, x7, x8, x9, x10, x11, x12], _, hs' =>
          cases hs'
          exact ⟨_, _, _, _, _, _, _, _, _, _, _, _, rfl⟩
      · have b2 : H2 b = some o := s2 b o (x1 b o hb hn)
        refine e.keep b o (fun z => ?_) hn b2
        have z' : V.ref p = V.ref b := z
        cases z'
        rw [x1 p o hb hn] at np
        cases np
    case data =>
      repeat walk_at "d"
      refine ⟨cnd ⟨by decide, by decide⟩, fun rows hl hR => ?_⟩
      have fit := steps_fit hR hl
      have ns := ne_self (rows_shaped2 hR.txt)
      have sl : (stepsM rows).length ≤ 14 := by
        have few := (pricesM_ok rows).few
        unfold stepsM
        rw [List.length_map]
        omega
      have ok : ∀ r ∈ rows, (0 ≤ r.left ∧ r.left ≤ 10 ^ 9) ∧ (1 ≤ r.price ∧ r.price ≤ 1000000) := fun r hr => by
        obtain ⟨b, s, m, _, hm, hT⟩ := hR.row r hr
        have := hT.1.2
        exact ⟨⟨(hR.seen r hr).2, by omega⟩, (hR.l r hr).2⟩
      repeat walk_at "d"
      refine ⟨cnd (by omega), ?_⟩
      repeat walk_at "d"
      refine ⟨fit, ?_⟩
      generalize hS9 : (PyData.list ((stepsM rows).map Stp.dat)).shown = S9
      repeat walk_at "d"
      refine ⟨by decide, by decide, fun i ρ m => m = 0 ∧ ∃ j6 j7 : DV, ρ = [.raw (.ref a), .un, .tape, .d (dRows rows), .d (dRows rows), .d (.str S9), j6, j7, .un, .un, .un, .un, .un], ⟨rfl, _, _, rfl⟩, ?_, ?_⟩
      · rintro i d ρ m hd ⟨rfl, j6, j7, rfl⟩
        repeat walk_at "d"
        refine ⟨cnd (by omega), fun out ho => ?_⟩
        rw [prices_uniq ho (pricesM_ok rows), steps_dat]
        repeat walk_at "d"
        refine ⟨fit, ?_⟩
        rw [hS9]
        repeat walk_at "d"
        refine ite2 (fun q => ?_) (fun q => ?_)
        · have q : (!decide (S9 = S9)) = true := q
          rw [decide_eq_true rfl] at q
          cases q
        repeat walk_at "d"
        refine ⟨_, ns, ?_⟩
        repeat walk_at "d"
        refine ⟨by rw [List.length_map]; omega, ?_⟩
        repeat walk_at "d"
        refine ⟨_, ns, ?_⟩
        repeat walk_at "d"
        exact ⟨rfl, _, _, rfl⟩
      · rintro ρ m ⟨rfl, j6, j7, rfl⟩
        refine ⟨fun ρ m => m = 0 ∧ ∃ (ps : List Int) (j6 j7 : DV), (∀ x ∈ ps, 1 ≤ x ∧ x ≤ 1000000) ∧ ps.length ≤ 3 ∧ ρ = [.raw (.ref a), .un, .tape, .d (dRows rows), .d (dRows rows), .d (.str S9), j6, j7, .d (.list (ps.map PyData.int)), .un, .un, .un, .un], ?_, ?_⟩
        · repeat walk_at "d"
          refine ⟨cnd ⟨by decide, by decide⟩, fun x x0 x1 => ?_⟩
          repeat walk_at "d"
          refine ⟨rfl, [1 + x, 1, 1000000], j6, j7, fun y hy => ?_, by simp, rfl⟩
          simp only [List.mem_cons, List.not_mem_nil, or_false] at hy
          omega
        rintro ρ m ⟨rfl, ps0, j6, j7, in0, l0, rfl⟩
        repeat walk_at "d"
        have hcut : ∀ d ∈ cutD (rows.map Row.dat) none (some 4), ∃ r ∈ rows, d = r.dat := fun d hd => by
          unfold cutD at hd
          exact dat_mem (List.mem_of_mem_drop (List.mem_of_mem_take hd))
        have lcut : (cutD (rows.map Row.dat) none (some 4)).length ≤ 14 := by
          unfold cutD
          rw [List.length_take, List.length_drop, List.length_map]
          omega
        generalize cutD (rows.map Row.dat) none (some 4) = four at hcut lcut
        refine ⟨fun i ρ m => m = 0 ∧ ∃ (ps : List Int) (j9 : DV), (∀ x ∈ ps, 1 ≤ x ∧ x ≤ 1000000) ∧ ps.length ≤ 3 + 3 * i ∧ ρ = [.raw (.ref a), .un, .tape, .d (dRows rows), .d (dRows rows), .d (.str S9), j6, j7, .d (.list (ps.map PyData.int)), j9, .un, .un, .un], ⟨rfl, ps0, _, in0, by omega, rfl⟩, ?_, ?_⟩
        · rintro i d ρ m hd ⟨rfl, ps, j9, inp, lp, rfl⟩
          have hi := (List.getElem?_eq_some_iff.mp hd).1
          obtain ⟨r, hr, rfl⟩ := hcut _ (List.mem_of_getElem? hd)
          repeat walk_at "d"
          refine lcFM (moreW r.price) (moreO r.price) rfl (by show 3 ≤ 100000; decide) ?_ ?_
          · intro d hd
            obtain ⟨z, rfl⟩ : ∃ z : Int, d = .int z := by
              have hd : d ∈ ([.int (-1), .int 0, .int 1] : List PyData) := hd
              simp only [List.mem_cons, List.not_mem_nil, or_false] at hd
              rcases hd with e | e | e <;> exact ⟨_, e⟩
            refine ⟨_, rfl, fun R k => ?_, fun _ R k => ?_⟩
            · have k : R (decide (1 ≤ r.price + z) && decide (r.price + z ≤ 1000000)) 0 := k
              repeat walk_at "d"
              refine ite2 (fun q => ?_) (fun q => ?_)
              · have q : decide (1 ≤ r.price + z) = true := q
                rw [q, Bool.true_and] at k
                repeat walk_at "d"
                exact k
              · have q : ¬ decide (1 ≤ r.price + z) = true := q
                rw [(Bool.not_eq_true _).mp q, Bool.false_and] at k
                exact ⟨_, rfl, k⟩
            · repeat walk_at "d"
              exact k _ rfl
          have em := more_dat r.price
          generalize hms : (([-1, 0, 1] : List Int).filter fun k => decide (1 ≤ r.price + k) && decide (r.price + k ≤ 1000000)).map (fun k => r.price + k) = ms at em
          have lm : ms.length ≤ 3 := by
            rw [← hms, List.length_map]
            exact List.length_filter_le _ _
          have im : ∀ x ∈ ms, 1 ≤ x ∧ x ≤ 1000000 := fun x hx => by
            rw [← hms] at hx
            obtain ⟨k, hk, rfl⟩ := List.mem_map.mp hx
            have := (List.mem_filter.mp hk).2
            rw [Bool.and_eq_true, decide_eq_true_eq, decide_eq_true_eq] at this
            exact this
          clear hms
          rw [show (List.filter (moreW r.price) _).map (moreO r.price) = ms.map PyData.int from em]
          repeat walk_at "d"
          refine ⟨_, opCat_ok (by rw [List.length_map, List.length_map]; omega), ?_⟩
          repeat walk_at "d"
          refine ⟨rfl, ps ++ ms, .d r.dat, fun x hx => ?_, by rw [List.length_append]; omega, ?_⟩
          · rcases List.mem_append.mp hx with z | z
            · exact inp x z
            · exact im x z
          · rw [List.map_append]
            rfl
        · rintro ρ m ⟨rfl, ps, j9, inp, lp, rfl⟩
          repeat walk_at "d"
          refine ⟨fun i ρ m => m = 0 ∧ ∃ j10 j11 : DV, ρ = [.raw (.ref a), .un, .tape, .d (dRows rows), .d (dRows rows), .d (.str S9), j6, j7, .d (.list (ps.map PyData.int)), j9, j10, j11, .un], ⟨rfl, _, _, rfl⟩, ?_, ?_⟩
          · rintro i d ρ m hd ⟨rfl, j10, j11, rfl⟩
            rw [List.getElem?_map] at hd
            cases hx : ps[i]? with
            | none => rw [hx] at hd; cases hd
            | some p =>
            rw [hx] at hd
            cases hd
            obtain ⟨p1, p2⟩ := inp p (List.mem_of_getElem? hx)
            have wok : WorthOk rows p := ⟨fun r hr => by have := ok r hr; omega, by omega, by omega⟩
            obtain ⟨w0, w1⟩ := worth_fit ok p1 p2
            have wl : (worthM rows p).natAbs.log2 < 1920 := by
              by_cases z : (worthM rows p).natAbs = 0
              · rw [z]
                decide
              · exact Nat.lt_trans ((Nat.log2_lt z).mpr (show (worthM rows p).natAbs < 2 ^ 256 by omega)) (by decide)
            repeat walk_at "d"
            refine ⟨cnd wok, ?_⟩
            repeat walk_at "d"
            refine ⟨wl, ?_⟩
            repeat walk_at "d"
            refine ⟨cnd ⟨wok, fun r hr => (hR.txt r hr).2⟩, ?_⟩
            repeat walk_at "d"
            refine ⟨wl, ?_⟩
            repeat walk_at "d"
            refine ite2 (fun q => ?_) (fun q => ?_)
            · have q : (!decide ((Str.ofString (toString (worthM rows p))) = (Str.ofString (toString (worthM rows p))))) = true := q
              rw [decide_eq_true rfl] at q
              cases q
            repeat walk_at "d"
            refine ⟨_, ns, ?_⟩
            repeat walk_at "d"
            exact ⟨rfl, _, _, rfl⟩
          · rintro ρ m ⟨rfl, j10, j11, rfl⟩
            exact ⟨rfl, rfl⟩
end

end
/-! ### what the top has written, the end -/
instance tab0 : Tabz := ⟨[]⟩
theorem all_mk {l : PySem.W.OpenLaw} {w : World} {K : PySem.W.Frag} {h : Heap} {mg : Str → Option Value} {fa f1 f2 f3 f4 f5 f6 f7 f8 f9 f10 f11 : Addr} (X : K.In h) (G : h.Ns mainGlobals mg) (hfa : mg "law" = some (.ref fa))
    {od1 an1 od2 an2 od3 an3 od4 an4 od5 an5 od6 an6 od7 an7 od8 an8 od9 an9 od10 an10 od11 an11 : Option Addr} {sl1 sl2 sl3 sl4 sl5 sl6 sl7 sl8 sl9 sl10 sl11 : Array (Option Value)} {oc1 kV1 dc1 pm1 cd1 ct1 oc2 kV2 dc2 pm2 cd2 ct2 oc3 kV3 dc3 pm3 cd3 ct3 oc4 kV4 dc4 pm4 cd4 ct4 oc5 kV5 dc5 pm5 cd5 ct5 oc6 kV6 dc6 pm6 cd6 ct6 oc7 kV7 dc7 pm7 cd7 ct7 oc8 kV8 dc8 pm8 cd8 ct8 oc9 kV9 dc9 pm9 cd9 ct9 oc10 kV10 dc10 pm10 cd10 ct10 oc11 kV11 dc11 pm11 cd11 ct11 : Value}
    (a1 : PySem.W.nsIn K mainGlobals "left_by_price" = some (some (.ref f1))) (l1 : K.lookup f1 = some ⟨oc1, od1, .func (PySem.W.fnOf "left_by_price" "left_by_price" (defArgs s_left_by_price) (defBody s_left_by_price) (defScope s_left_by_price) .none kV1 dc1 pm1 an1 cd1 ct1), sl1⟩) (c1 : PySem.W.codeIn K cd1 "left_by_price" = true) (k1 : PySem.W.keepIn K (.ref f1) = true)
    (a2 : PySem.W.nsIn K mainGlobals "table" = some (some (.ref f2))) (l2 : K.lookup f2 = some ⟨oc2, od2, .func (PySem.W.fnOf "table" "table" (defArgs s_table) (defBody s_table) (defScope s_table) .none kV2 dc2 pm2 an2 cd2 ct2), sl2⟩) (c2 : PySem.W.codeIn K cd2 "table" = true) (k2 : PySem.W.keepIn K (.ref f2) = true)
    (a3 : PySem.W.nsIn K mainGlobals "worth" = some (some (.ref f3))) (l3 : K.lookup f3 = some ⟨oc3, od3, .func (PySem.W.fnOf "worth" "worth" (defArgs s_worth) (defBody s_worth) (defScope s_worth) .none kV3 dc3 pm3 an3 cd3 ct3), sl3⟩) (c3 : PySem.W.codeIn K cd3 "worth" = true) (k3 : PySem.W.keepIn K (.ref f3) = true)
    (a4 : PySem.W.nsIn K mainGlobals "_law_tape" = some (some (.ref f4))) (l4 : K.lookup f4 = some ⟨oc4, od4, .func (PySem.W.fnOf "_law_tape" "_law_tape" (defArgs s_law_tape) (defBody s_law_tape) (defScope s_law_tape) .none kV4 dc4 pm4 an4 cd4 ct4), sl4⟩) (c4 : PySem.W.codeIn K cd4 "_law_tape" = true) (k4 : PySem.W.keepIn K (.ref f4) = true)
    (a5 : PySem.W.nsIn K mainGlobals "_law_digit" = some (some (.ref f5))) (l5 : K.lookup f5 = some ⟨oc5, od5, .func (PySem.W.fnOf "_law_digit" "_law_digit" (defArgs s_law_digit) (defBody s_law_digit) (defScope s_law_digit) .none kV5 dc5 pm5 an5 cd5 ct5), sl5⟩) (c5 : PySem.W.codeIn K cd5 "_law_digit" = true) (k5 : PySem.W.keepIn K (.ref f5) = true)
    (a6 : PySem.W.nsIn K mainGlobals "_law_drawn_order" = some (some (.ref f6))) (l6 : K.lookup f6 = some ⟨oc6, od6, .func (PySem.W.fnOf "_law_drawn_order" "_law_drawn_order" (defArgs s_law_drawn_order) (defBody s_law_drawn_order) (defScope s_law_drawn_order) .none kV6 dc6 pm6 an6 cd6 ct6), sl6⟩) (c6 : PySem.W.codeIn K cd6 "_law_drawn_order" = true) (k6 : PySem.W.keepIn K (.ref f6) = true)
    (a7 : PySem.W.nsIn K mainGlobals "_law_row" = some (some (.ref f7))) (l7 : K.lookup f7 = some ⟨oc7, od7, .func (PySem.W.fnOf "_law_row" "_law_row" (defArgs s_law_row) (defBody s_law_row) (defScope s_law_row) .none kV7 dc7 pm7 an7 cd7 ct7), sl7⟩) (c7 : PySem.W.codeIn K cd7 "_law_row" = true) (k7 : PySem.W.keepIn K (.ref f7) = true)
    (a8 : PySem.W.nsIn K mainGlobals "_law_rows" = some (some (.ref f8))) (l8 : K.lookup f8 = some ⟨oc8, od8, .func (PySem.W.fnOf "_law_rows" "_law_rows" (defArgs s_law_rows) (defBody s_law_rows) (defScope s_law_rows) .none kV8 dc8 pm8 an8 cd8 ct8), sl8⟩) (c8 : PySem.W.codeIn K cd8 "_law_rows" = true) (k8 : PySem.W.keepIn K (.ref f8) = true)
    (a9 : PySem.W.nsIn K mainGlobals "_law_table" = some (some (.ref f9))) (l9 : K.lookup f9 = some ⟨oc9, od9, .func (PySem.W.fnOf "_law_table" "_law_table" (defArgs s_law_table) (defBody s_law_table) (defScope s_law_table) .none kV9 dc9 pm9 an9 cd9 ct9), sl9⟩) (c9 : PySem.W.codeIn K cd9 "_law_table" = true) (k9 : PySem.W.keepIn K (.ref f9) = true)
    (a10 : PySem.W.nsIn K mainGlobals "_law_worth" = some (some (.ref f10))) (l10 : K.lookup f10 = some ⟨oc10, od10, .func (PySem.W.fnOf "_law_worth" "_law_worth" (defArgs s_law_worth) (defBody s_law_worth) (defScope s_law_worth) .none kV10 dc10 pm10 an10 cd10 ct10), sl10⟩) (c10 : PySem.W.codeIn K cd10 "_law_worth" = true) (k10 : PySem.W.keepIn K (.ref f10) = true)
    (a11 : PySem.W.nsIn K mainGlobals "law" = some (some (.ref f11))) (l11 : K.lookup f11 = some ⟨oc11, od11, .func (PySem.W.fnOf "law" "law" (defArgs s_law) (defBody s_law) (defScope s_law) .none kV11 dc11 pm11 an11 cd11 ct11), sl11⟩) (c11 : PySem.W.codeIn K cd11 "law" = true) (k11 : PySem.W.keepIn K (.ref f11) = true)
    (z0 : PySem.W.nsIn K mainGlobals "len" = some none)
    (z1 : PySem.W.nsIn K mainGlobals "max" = some none)
    (z2 : PySem.W.nsIn K mainGlobals "min" = some none)
    (z3 : PySem.W.nsIn K mainGlobals "range" = some none)
    (z4 : PySem.W.nsIn K mainGlobals "bool" = some none)
    (z5 : PySem.W.nsIn K mainGlobals "isinstance" = some none)
    (z6 : PySem.W.nsIn K mainGlobals "int" = some none)
    (z7 : PySem.W.nsIn K mainGlobals "repr" = some none)
    (z8 : PySem.W.nsIn K mainGlobals "all" = some none)
    (z9 : PySem.W.nsIn K mainGlobals "list" = some none)
    (z10 : PySem.W.nsIn K mainGlobals "tuple" = some none)
    (z11 : PySem.W.nsIn K mainGlobals "zip" = some none)
    (z12 : PySem.W.nsIn K mainGlobals "sorted" = some none)
    (z13 : PySem.W.nsIn K mainGlobals "sum" = some none)
    (z14 : PySem.W.nsIn K mainGlobals "abs" = some none)
    (z15 : PySem.W.nsIn K mainGlobals "enumerate" = some none)
    (z16 : PySem.W.nsIn K mainGlobals "set" = some none)
    (z17 : PySem.W.nsIn K mainGlobals "dict" = some none)
    (z18 : PySem.W.nsIn K mainGlobals "reversed" = some none)
    {t0 : Tok} (gl_0 : PySem.W.nsIn K mainGlobals "BUY" = some (some (.str "buy" t0)))
    {t1 : Tok} (gl_1 : PySem.W.nsIn K mainGlobals "SELL" = some (some (.str "sell" t1)))
    : ∃ fd : FuncData, (∀ (s : Shared) (v : Value), BindsTo s fd ⟨[v], []⟩ [("script", v)]) ∧ ∀ base : Heap, K.In base → base.Ns mainGlobals mg → FnAt l.prog w K mg base CX0 callerA fa fd ["script"] (spLaw K) := by
  have e := hfa.symm.trans (PySem.W.mg_of X G a11)
  cases e
  have T : Txt mg := ⟨PySem.W.mg_none_of X G z0, PySem.W.mg_none_of X G z1, PySem.W.mg_none_of X G z2, PySem.W.mg_none_of X G z3, PySem.W.mg_none_of X G z4, PySem.W.mg_none_of X G z5, PySem.W.mg_none_of X G z6, PySem.W.mg_none_of X G z7, PySem.W.mg_none_of X G z8, PySem.W.mg_none_of X G z9, PySem.W.mg_none_of X G z10, PySem.W.mg_none_of X G z11, PySem.W.mg_none_of X G z12, PySem.W.mg_none_of X G z13, PySem.W.mg_none_of X G z14, PySem.W.mg_none_of X G z15, PySem.W.mg_none_of X G z16, PySem.W.mg_none_of X G z17, PySem.W.mg_none_of X G z18, ⟨_, PySem.W.mg_of X G gl_0⟩, ⟨_, PySem.W.mg_of X G gl_1⟩⟩
  have F1 := fun_mk (st := s_left_by_price) l1 c1 k1
  have b1 := F1.binds (ps := ["rows", "side"]) fun _ _ _ _ _ _ us hl => match us, hl with | [_, _], _ => rfl
  have F2 := fun_mk (st := s_table) l2 c2 k2
  have b2 := F2.binds (ps := ["rows"]) fun _ _ _ _ _ _ us hl => match us, hl with | [_], _ => rfl
  have F3 := fun_mk (st := s_worth) l3 c3 k3
  have b3 := F3.binds (ps := ["rows", "price"]) fun _ _ _ _ _ _ us hl => match us, hl with | [_, _], _ => rfl
  have F4 := fun_mk (st := s_law_tape) l4 c4 k4
  have b4 := F4.binds (ps := ["script", "start"]) fun _ _ _ _ _ _ us hl => match us, hl with | [_, _], _ => rfl
  have F5 := fun_mk (st := s_law_digit) l5 c5 k5
  have b5 := F5.binds (ps := ["tape", "many"]) fun _ _ _ _ _ _ us hl => match us, hl with | [_, _], _ => rfl
  have F6 := fun_mk (st := s_law_drawn_order) l6 c6 k6
  have b6 := F6.binds (ps := ["tape", "many"]) fun _ _ _ _ _ _ us hl => match us, hl with | [_, _], _ => rfl
  have F7 := fun_mk (st := s_law_row) l7 c7 k7
  have b7 := F7.binds (ps := ["tape", "number", "stamp", "base", "spread", "most"]) fun _ _ _ _ _ _ us hl => match us, hl with | [_, _, _, _, _, _], _ => rfl
  have F8 := fun_mk (st := s_law_rows) l8 c8 k8
  have b8 := F8.binds (ps := ["tape", "most_rows"]) fun _ _ _ _ _ _ us hl => match us, hl with | [_, _], _ => rfl
  have F9 := fun_mk (st := s_law_table) l9 c9 k9
  have b9 := F9.binds (ps := ["rows"]) fun _ _ _ _ _ _ us hl => match us, hl with | [_], _ => rfl
  have F10 := fun_mk (st := s_law_worth) l10 c10 k10
  have b10 := F10.binds (ps := ["rows", "price"]) fun _ _ _ _ _ _ us hl => match us, hl with | [_, _], _ => rfl
  have F11 := fun_mk (st := s_law) l11 c11 k11
  refine ⟨PySem.W.fnOf "law" "law" (defArgs s_law) (defBody s_law) (defScope s_law) .none kV11 dc11 pm11 an11 cd11 ct11, fun s v => .of_eq rfl, fun base _ _ => ?_⟩
  have C1 : Cal l.prog w K mg base 1 "left_by_price" ["rows", "side"] (spD mLeft) := ⟨f1, _, ok_left F1 T, PySem.W.mg_of X G a1, k1, b1⟩
  have C2 : Cal l.prog w K mg base 2 "table" ["rows"] (spD mTable) := ⟨f2, _, ok_table F2 T C1, PySem.W.mg_of X G a2, k2, b2⟩
  have C3 : Cal l.prog w K mg base 1 "worth" ["rows", "price"] (spD mWorth) := ⟨f3, _, ok_worth F3 T, PySem.W.mg_of X G a3, k3, b3⟩
  have C4 : Cal l.prog w K mg base 1 "_law_tape" ["script", "start"] (spTape K) := ⟨f4, _, ok_tape F4 T, PySem.W.mg_of X G a4, k4, b4⟩
  have C5 : Cal l.prog w K mg base 1 "_law_digit" ["tape", "many"] (spD mDigit) := ⟨f5, _, ok_digitD F5, PySem.W.mg_of X G a5, k5, b5⟩
  have C6 : Cal l.prog w K mg base 2 "_law_drawn_order" ["tape", "many"] (spD mOrder) := ⟨f6, _, ok_orderD F6 T ⟨f5, _, ok_digit F5, PySem.W.mg_of X G a5, k5, b5⟩, PySem.W.mg_of X G a6, k6, b6⟩
  have C7 : Cal l.prog w K mg base 2 "_law_row" ["tape", "number", "stamp", "base", "spread", "most"] (spD mRow) := ⟨f7, _, ok_row F7 T C5, PySem.W.mg_of X G a7, k7, b7⟩
  have C8 : Cal l.prog w K mg base 3 "_law_rows" ["tape", "most_rows"] (spD mRowsT) := ⟨f8, _, ok_rows F8 T C5 C6 C7, PySem.W.mg_of X G a8, k8, b8⟩
  have C9 : Cal l.prog w K mg base 1 "_law_table" ["rows"] (spD mLawTable) := ⟨f9, _, ok_law_table F9 T, PySem.W.mg_of X G a9, k9, b9⟩
  have C10 : Cal l.prog w K mg base 1 "_law_worth" ["rows", "price"] (spD mLawWorth) := ⟨f10, _, ok_law_worth F10 T, PySem.W.mg_of X G a10, k10, b10⟩
  exact ok_law F11 T C4 C5 C8 C2 C9 C3 C10
theorem walk {l : PySem.W.OpenLaw} {q : Program} {loose : List Str} {XP : (Str → Option Value) → Heap → Prop} {YP : World → Heap → Prop} {d : DefRec} {K : Params → PySem.W.Frag} (hn : l.most = some 63) (hdf : d.params.defaults = [])
    (hY : ∀ (w : World) (h : Heap), YP w h → (K w.params).In h)
    (F : ∀ (w : World) (mg : Str → Option Value) (fa : Addr) (h : Heap), (K w.params).In h → h.Ns mainGlobals mg → mg d.name = some (.ref fa) →
      ∃ fd : FuncData, (∀ (s : Shared) (u : Value), BindsTo s fd ⟨[u], []⟩ [("script", u)]) ∧ ∀ base : Heap, (K w.params).In base → base.Ns mainGlobals mg → FnAt l.prog w (K w.params) mg base CX0 callerA fa fd ["script"] (spLaw (K w.params))) :
    PySem.W.WalkO q loose XP YP l.row.toRowW d [] (fun f vs => PySem.call f vs) := by
  refine Att.attach_callB hn hdf fun w s0 s1 mg mb fa o pm cd doc adr us nums Gr Yh h1 h2 h3 h4 h5 h6 h7 h8 h9 => ?_
  have KX := hY w _ Yh
  obtain ⟨fd, hb, hF⟩ := F w mg fa _ KX Gr.T.g h4
  exact end_at KX Gr.T.g Gr.T.b Gr.T.builtins Gr.T.nolimit h9 h5 h6 (Nat.le_trans h7 (by decide)) hF hb (fun H hS => ⟨adr, nums, rfl, hS, h7, (fun p hp => (nomatch (show p ∈ ([] : List (Addr × Str)) from hp))), fun _ => rfl⟩) fun _ _ _ z => z
end Rh
open PySem PySem.W PyProof.Rows
set_option maxRecDepth 100000 in
set_option maxHeartbeats 0 in
theorem PySem.Challenge.cw_ringhall_k28_tables_of_rows_holds : PySem.Challenge.rw_ringhall_k28_tables_of_rows.Holds := by
  w_on; o_law; k_head; (case hw => w_witness2)
  k_fill
  refine Rh.walk (l := PySem.Challenge.rw_ringhall_k28_tables_of_rows) rfl rfl (fun w h Y => PySem.W.kIn_of Y) ?F
  case F =>
    intro w mg fa h KX G hmg
    refine' Rh.all_mk KX G hmg ?a1 ?l1 ?c1 ?k1 ?a2 ?l2 ?c2 ?k2 ?a3 ?l3 ?c3 ?k3 ?a4 ?l4 ?c4 ?k4 ?a5 ?l5 ?c5 ?k5 ?a6 ?l6 ?c6 ?k6 ?a7 ?l7 ?c7 ?k7 ?a8 ?l8 ?c8 ?k8 ?a9 ?l9 ?c9 ?k9 ?a10 ?l10 ?c10 ?k10 ?a11 ?l11 ?c11 ?k11 ?z0 ?z1 ?z2 ?z3 ?z4 ?z5 ?z6 ?z7 ?z8 ?z9 ?z10 ?z11 ?z12 ?z13 ?z14 ?z15 ?z16 ?z17 ?z18 ?gl_0 ?gl_1
    (case a1 => k_is)
    (case l1 => k_is)
    (case c1 => k_is)
    (case k1 => k_is)
    (case a2 => k_is)
    (case l2 => k_is)
    (case c2 => k_is)
    (case k2 => k_is)
    (case a3 => k_is)
    (case l3 => k_is)
    (case c3 => k_is)
    (case k3 => k_is)
    (case a4 => k_is)
    (case l4 => k_is)
    (case c4 => k_is)
    (case k4 => k_is)
    (case a5 => k_is)
    (case l5 => k_is)
    (case c5 => k_is)
    (case k5 => k_is)
    (case a6 => k_is)
    (case l6 => k_is)
    (case c6 => k_is)
    (case k6 => k_is)
    (case a7 => k_is)
    (case l7 => k_is)
    (case c7 => k_is)
    (case k7 => k_is)
    (case a8 => k_is)
    (case l8 => k_is)
    (case c8 => k_is)
    (case k8 => k_is)
    (case a9 => k_is)
    (case l9 => k_is)
    (case c9 => k_is)
    (case k9 => k_is)
    (case a10 => k_is)
    (case l10 => k_is)
    (case c10 => k_is)
    (case k10 => k_is)
    (case a11 => k_is)
    (case l11 => k_is)
    (case c11 => k_is)
    (case k11 => k_is)
    (case z0 => k_is)
    (case z1 => k_is)
    (case z2 => k_is)
    (case z3 => k_is)
    (case z4 => k_is)
    (case z5 => k_is)
    (case z6 => k_is)
    (case z7 => k_is)
    (case z8 => k_is)
    (case z9 => k_is)
    (case z10 => k_is)
    (case z11 => k_is)
    (case z12 => k_is)
    (case z13 => k_is)
    (case z14 => k_is)
    (case z15 => k_is)
    (case z16 => k_is)
    (case z17 => k_is)
    (case z18 => k_is)
    (case gl_0 => k_is)
    (case gl_1 => k_is)


