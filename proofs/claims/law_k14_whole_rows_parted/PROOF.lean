import PyProof.Rows.All
import Wide.All
import OpenK.AllK
import Wide.FinOn
import HandS.ForMost
import HandS.IsInst
import HandS.Wide
import HandS.Codes
import HandS.Walk
import HandS.Deep
import HandS.Lambda
import HandS.SortKw
import KE.SortKeyHeap
import KE.SortLaws
import KE.KLam
import HandS.EndBits
import HandS.EndTab
import HandS.Zip
import HandS.Rev
import HandS.Defaults
import HandS.Flow
import HandS.Strs
import HandS.SetBool
import HandS.SetFor
import HandS.SetKeys
import HandS.Style
import HandS.TupAny
import HandS.Flt
import HandS.MakeKwOnly
import HandS.RaiseMore
import HandS.Text
import HandS.SortInts
import HandS.Dict
import KE.KSortKey
import HandS.Defaults
import KE.KEqDict
import KE.LtData
import HandS.DictComp
import KE.GoesMore
import PyProof.Draws
import PyProof.EnumMake
import PySem.Challenge.RW_ringhall_k14_whole_rows_parted
set_option Elab.async false
set_option linter.all false
set_option maxHeartbeats 4000000
set_option maxRecDepth 100000
set_option exponentiation.threshold 2000
namespace Rh
open PySem L2
def topS (i : Nat) : Stmt := PySem.Challenge.pw_ringhall_k14_whole_rows_parted.main.body.getD i (.Pass ⟨0, 0, 0, 0⟩)
/-! ### the purse -/
def Pu (H : Hp) (p : Addr) (n : Int) : Prop := ∃ own seed cnt : Int, H p = some (.lst [.int own, .int seed, .int cnt]) ∧ 0 ≤ own ∧ 0 ≤ seed ∧ seed < 2 ^ 63 ∧ 0 ≤ cnt ∧ cnt ≤ n
def Keep (p : Addr) (H H' : Hp) : Prop := ∀ b o, b ≠ p → H b = some o → H' b = some o
theorem Keep.refl (p : Addr) (H : Hp) : Keep p H H := fun _ _ _ h => h
theorem Keep.trans {p : Addr} {H H1 H2 : Hp} (a : Keep p H H1) (b : Keep p H1 H2) : Keep p H H2 := fun c o n h => b c o n (a c o n h)
theorem Keep.same {p : Addr} {H H' : Hp} (s : Same H H') : Keep p H H' := fun c o _ h => s c o h
theorem Same.keep {p : Addr} {H0 H H' : Hp} (s : Same H0 H) (k : Keep p H H') (n : H0 p = none) : Same H0 H' := fun b o h => k b o (ne_of_none h n) (s b o h)
theorem Same.new {H : Hp} {p : Addr} {o : HO} (h : H p = none) : Same H (upd H p o) := fun a u e => by
  rw [upd_ne (ne_of_none e h)]
  exact e
theorem Pu.same {H H' : Hp} {p : Addr} {n : Int} (u : Pu H p n) (s : Same H H') : Pu H' p n := by
  obtain ⟨a, b, c, h, r⟩ := u
  exact ⟨a, b, c, s _ _ h, r⟩
theorem Pu.mono {H : Hp} {p : Addr} {n m : Int} (u : Pu H p n) (h : n ≤ m) : Pu H p m := by
  obtain ⟨a, b, c, h1, h2, h3, h4, h5, h6⟩ := u
  exact ⟨a, b, c, h1, h2, h3, h4, h5, by omega⟩

def spPurse (K : PySem.W.Frag) : Sp := fun vs H Q _ => ∃ (a : Addr) (ns : List Int) (k : Int), vs = [.ref a, .int k] ∧ SqL K H a (ns.map V.int) ∧ ns.length ≤ 63 ∧ 0 ≤ k ∧ k < 64 ∧ ∀ p H', H p = none → Same H H' → Pu H' p 0 → Q (.ref p) H'
def spCoin : Sp := fun vs H Q _ => ∃ (p : Addr) (many n : Int), vs = [.ref p, .int many] ∧ Pu H p n ∧ n < 2 ^ 30 ∧ 1 ≤ many ∧ many < 2 ^ 300 ∧
  ∀ r H', 0 ≤ r → r < many → Pu H' p (n + 1) → Keep p H H' → Q (.int r) H'

/-- a def that stands under its name and keeps its promise -/
def Cal (P : Program) (w : World) (K : PySem.W.Frag) (mg : Str → Option Value) (base : Heap) (k : Nat) (x : Str) (ps : List Str) (sp : Sp) : Prop :=
  ∃ (f : Addr) (fd : FuncData), FnOk P w K mg base CX0 k f fd ps sp ∧ mg x = some (.ref f) ∧ PySem.W.keepIn K (.ref f) = true ∧ Binds K fd ps []

abbrev primesL : List V := [.int 2147483489, .int 2147483477, .int 2147483423, .int 2147483399, .int 2147483353, .int 2147483323, .int 2147483269, .int 2147483249]
theorem prime_at {i : Int} (h0 : 0 ≤ i) (h8 : i < 8) : ∃ v : Int, atI primesL i = some (.int v) ∧ 2147483249 ≤ v ∧ v ≤ 2147483489 := by
  have h : i = 0 ∨ i = 1 ∨ i = 2 ∨ i = 3 ∨ i = 4 ∨ i = 5 ∨ i = 6 ∨ i = 7 := by omega
  rcases h with h | h | h | h | h | h | h | h <;> subst h <;> exact ⟨_, rfl, by decide, by decide⟩

theorem yesC {σ : L2.St} {H : Hp} {A B : Hp → Prop} (h : A H) : tYes σ H (fun b H3 => if b = true then A H3 else B H3) := by
  show (if true = true then A H else B H)
  rw [if_pos rfl]
  exact h

/-! ### data readings: what stands in the heap as data -/
/-- the tables of code objects that may grow -/
class Tabz where
  T : List (Addr × Str)
/-- a family of tapes: what holds of a tape and of what else may be changed, where that stands -/
class Fam where
  Tq : V → V → Hp → Int → Prop
  Pq : V → V → Addr → Prop
  mv : ∀ {u t : V} {H H' : Hp} {n : Int}, Tq u t H n → (∀ b o, Pq u t b → H b = some o → H' b = some o) → Tq u t H' n
  ty : ∀ {u t : V} {H : Hp} {n : Int} {a : Addr}, Tq u t H n → Pq u t a → ∃ xs, H a = some (.lst xs)
section
variable [Fam] [Tabz]
mutual
inductive Rp (H : Hp) : V → PyData → Prop
  | non : Rp H .non .none
  | bl (b : Bool) : Rp H (.bl b) (.bool b)
  | int (i : Int) : Rp H (.int i) (.int i)
  | str (x : Str) : Rp H (.str x) (.str x)
  | lst {a : Addr} {xs : List V} {ds : List PyData} : H a = some (.lst xs) → RpA H xs ds → Rp H (.ref a) (.list ds)
  | tup {a : Addr} {xs : List V} {ds : List PyData} : H a = some (.tup xs) → RpA H xs ds → Rp H (.ref a) (.tuple ds)
inductive RpA (H : Hp) : List V → List PyData → Prop
  | nil : RpA H [] []
  | cons {v : V} {vs : List V} {d : PyData} {ds : List PyData} : Rp H v d → RpA H vs ds → RpA H (v :: vs) (d :: ds)
end
/-- all but tables of code objects stays -/
def Xt (H H' : Hp) : Prop := ∀ b o, (∀ ps, o ≠ HO.tbl ps) → H b = some o → H' b = some o
theorem Rp.ex {M M' : Hp} {v : V} {d : PyData} (r : Rp M v d) (e : Xt M M') : Rp M' v d := by
  refine Rp.rec (motive_1 := fun v d _ => Rp M' v d) (motive_2 := fun vs ds _ => RpA M' vs ds) .non (fun b => .bl b) (fun i => .int i) (fun x => .str x) ?_ ?_ .nil ?_ r
  · intro a xs ds h _ ih
    exact .lst (e _ _ (fun ps z => by cases z) h) ih
  · intro a xs ds h _ ih
    exact .tup (e _ _ (fun ps z => by cases z) h) ih
  · intro v vs d ds _ _ h1 h2
    exact .cons h1 h2
theorem RpA.ex {M M' : Hp} {vs : List V} {ds : List PyData} (r : RpA M vs ds) (e : Xt M M') : RpA M' vs ds := by
  refine RpA.rec (motive_1 := fun v d _ => Rp M' v d) (motive_2 := fun vs ds _ => RpA M' vs ds) .non (fun b => .bl b) (fun i => .int i) (fun x => .str x) ?_ ?_ .nil ?_ r
  · intro a xs ds h _ ih
    exact .lst (e _ _ (fun ps z => by cases z) h) ih
  · intro a xs ds h _ ih
    exact .tup (e _ _ (fun ps z => by cases z) h) ih
  · intro v vs d ds _ _ h1 h2
    exact .cons h1 h2
theorem Rp.dp {K : PySem.W.Frag} {M : Hp} {v : V} {d : PyData} (r : Rp M v d) : Dp K M v d := by
  refine Rp.rec (motive_1 := fun v d _ => Dp K M v d) (motive_2 := fun vs ds _ => DpAll K M vs ds) .non (fun b => .bl b) (fun i => .int i) (fun x => .str x) ?_ ?_ .nil ?_ r
  · intro a xs ds h _ ih
    exact .lst (SqL.of h) ih
  · intro a xs ds h _ ih
    exact .tup (SqT.of h) ih
  · intro v vs d ds _ _ h1 h2
    exact .cons h1 h2
theorem RpA.length {M : Hp} : ∀ {vs : List V} {ds : List PyData}, RpA M vs ds → vs.length = ds.length
  | _, _, .nil => rfl
  | _, _, .cons _ t => by
    show _ + 1 = _ + 1
    rw [RpA.length t]
theorem RpA.get {M : Hp} : ∀ {vs : List V} {ds : List PyData} {i : Nat} {d : PyData}, RpA M vs ds → ds[i]? = some d → ∃ v, vs[i]? = some v ∧ Rp M v d
  | _, _, _, _, .nil, e => by simp at e
  | _, _, 0, _, .cons r _, e => by
    simp at e
    subst e
    exact ⟨_, rfl, r⟩
  | _, _, i + 1, d, .cons _ t, e => by
    obtain ⟨v, h1, h2⟩ := RpA.get (i := i) (d := d) t (by simpa using e)
    exact ⟨v, by simpa using h1, h2⟩
theorem RpA.app {M : Hp} : ∀ {vs ws : List V} {ds es : List PyData}, RpA M vs ds → RpA M ws es → RpA M (vs ++ ws) (ds ++ es)
  | _, _, _, _, .nil, s => s
  | _, _, _, _, .cons r t, s => .cons r (RpA.app t s)
theorem RpA.one {M : Hp} {v : V} {d : PyData} (r : Rp M v d) : RpA M [v] [d] := .cons r .nil
theorem RpA.set {M : Hp} {v : V} {d : PyData} (r : Rp M v d) : ∀ {vs : List V} {ds : List PyData} (i : Nat), RpA M vs ds → RpA M (vs.set i v) (ds.set i d)
  | _, _, _, .nil => .nil
  | _, _, 0, .cons _ t => .cons r t
  | _, _, i + 1, .cons q t => .cons q (RpA.set r i t)
theorem RpA.take {M : Hp} : ∀ {vs : List V} {ds : List PyData} (n : Nat), RpA M vs ds → RpA M (vs.take n) (ds.take n)
  | _, _, 0, _ => .nil
  | _, _, _ + 1, .nil => .nil
  | _, _, n + 1, .cons r t => .cons r (RpA.take n t)
theorem RpA.drop {M : Hp} : ∀ {vs : List V} {ds : List PyData} (n : Nat), RpA M vs ds → RpA M (vs.drop n) (ds.drop n)
  | _, _, 0, r => r
  | _, _, _ + 1, .nil => .nil
  | _, _, n + 1, .cons _ t => RpA.drop n t
theorem RpA.rev {M : Hp} : ∀ {vs : List V} {ds : List PyData}, RpA M vs ds → RpA M vs.reverse ds.reverse
  | _, _, .nil => .nil
  | _, _, .cons r t => by
    rw [List.reverse_cons, List.reverse_cons]
    exact (RpA.rev t).app (.one r)
theorem RpA.ints {M : Hp} : ∀ {vs : List V} {ns : List Int}, RpA M vs (ns.map PyData.int) → vs = ns.map V.int
  | [], [], _ => rfl
  | _, [], h => by cases h; rfl
  | _, n :: ns, h => by
    cases h with
    | cons r t =>
      cases r
      rw [RpA.ints t]
      rfl
theorem RpA.bools {M : Hp} : ∀ {vs : List V} {ns : List Bool}, RpA M vs (ns.map PyData.bool) → vs = ns.map V.bl
  | [], [], _ => rfl
  | _, [], h => by cases h; rfl
  | _, n :: ns, h => by
    cases h with
    | cons r t =>
      cases r
      rw [RpA.bools t]
      rfl
/-- a heap with some places hidden -/
noncomputable def msk (B : Addr → Prop) (H : Hp) : Hp := fun b => open Classical in if B b then none else H b
theorem msk_out {B : Addr → Prop} {H : Hp} {b : Addr} (n : ¬ B b) : msk B H b = H b := by
  unfold msk
  rw [if_neg n]
theorem msk_some {B : Addr → Prop} {H : Hp} {b : Addr} {o : HO} (h : msk B H b = some o) : ¬ B b ∧ H b = some o := by
  unfold msk at h
  split at h
  · cases h
  · exact ⟨by assumption, h⟩
theorem msk_le {B : Addr → Prop} {H : Hp} : Xt (msk B H) H := fun b o _ h => (msk_some h).2
/-- what a place is new ahead of: nothing stands there, or a table -/
def Fresh (H : Hp) (a : Addr) : Prop := ∀ o, H a = some o → ∃ ps, o = HO.tbl ps
theorem Fresh.of {H : Hp} {a : Addr} (h : H a = none) : Fresh H a := fun o e => by
  rw [h] at e
  cases e
/-- what a name holds, what is told: data; a list or a dict of one's own; a value as it is -/
inductive DV where
  | un | tape | raw (v : V) | d (x : PyData) | own (xs : List PyData) | dic (kvs : List (Key × PyData))
def DV.isOwn : DV → Bool
  | .own _ => true
  | .dic _ => true
  | _ => false
inductive KRp (M : Hp) : List (Key × V) → List (Key × PyData) → Prop
  | nil : KRp M [] []
  | cons {k : Key} {v : V} {d : PyData} {ws : List (Key × V)} {kvs : List (Key × PyData)} : Rp M v d → KRp M ws kvs → KRp M ((k, v) :: ws) ((k, d) :: kvs)
theorem KRp.ex {M M' : Hp} {ws : List (Key × V)} {kvs : List (Key × PyData)} (r : KRp M ws kvs) (e : Xt M M') : KRp M' ws kvs := by
  induction r with
  | nil => exact .nil
  | cons h _ ih => exact .cons (h.ex e) ih
/-- where a def stands: the heap at its entry, what its callers keep apart, what may be changed, what holds of that -/
structure EC where
  H0 : Hp
  B : Addr → Prop
  t : V
  u : V
  pins : List (V × PyData)
  PB : ∀ a, Fam.Pq u t a → B a
  Bs : ∀ a, B a → ∃ o, H0 a = some o ∧ ∀ ps, o ≠ HO.tbl ps
/-- what may be changed, what holds of it -/
def EC.P (c : EC) (a : Addr) : Prop := Fam.Pq c.u c.t a
def EC.G (c : EC) (n : Int) (H : Hp) : Prop := Fam.Tq c.u c.t H n ∧ LamX.Tabs Tabz.T H
theorem Tabs_mv {T : List (Addr × Str)} {H H' : Hp} (h : LamX.Tabs T H) (k : ∀ b o, (∀ xs, o ≠ HO.lst xs) → (∀ kvs, o ≠ HO.dK kvs) → H b = some o → H' b = some o) : LamX.Tabs T H' := fun p hp => by
  obtain ⟨ps, h1, h2, h3⟩ := h p hp
  refine ⟨ps, k _ _ (fun xs z => by cases z) (fun xs z => by cases z) h1, h2, fun pos cv hc => ?_⟩
  obtain ⟨c, e1, e2⟩ := h3 pos cv hc
  exact ⟨c, e1, k _ _ (fun xs z => by cases z) (fun xs z => by cases z) e2⟩
theorem EC.Gm (c : EC) (n : Int) (H H' : Hp) (g : c.G n H) (k : ∀ b o, (∀ xs, o ≠ HO.lst xs) → (∀ kvs, o ≠ HO.dK kvs) → H b = some o → H' b = some o) (k2 : ∀ b o, c.P b → H b = some o → H' b = some o) : c.G n H' :=
  ⟨Fam.mv g.1 k2, Tabs_mv g.2 k⟩
theorem EC.Gs (c : EC) (n : Int) (H : Hp) (a : Addr) (g : c.G n H) (p : c.P a) : ∃ o, H a = some o ∧ ∀ ps, o ≠ HO.tbl ps := by
  obtain ⟨xs, h⟩ := Fam.ty g.1 p
  exact ⟨_, h, fun ps z => by cases z⟩
def EC.av (c : EC) (A : Nat → Option Addr) : Addr → Prop := fun b => c.B b ∨ ∃ i, A i = some b
def EC.pin (c : EC) (l : List (V × PyData)) : EC := { c with pins := l ++ c.pins }
/-- what stays -/
def Fr (c : EC) (n : Int) (H H' : Hp) : Prop := (∀ b o, ¬ c.P b → (∀ ps, o ≠ HO.tbl ps) → H b = some o → H' b = some o) ∧ c.G n H'
theorem Fr.refl {c : EC} {n : Int} {H : Hp} (g : c.G n H) : Fr c n H H := ⟨fun _ _ _ _ h => h, g⟩
theorem Fr.trans {c : EC} {n m : Int} {H H1 H2 : Hp} (a : Fr c n H H1) (b : Fr c m H1 H2) : Fr c m H H2 := ⟨fun x o p q h => b.1 x o p q (a.1 x o p q h), b.2⟩
theorem Fr.msk {c : EC} {n : Int} {A : Nat → Option Addr} {H H' : Hp} (f : Fr c n H H') : Xt (msk (c.av A) H) (msk (c.av A) H') := fun b o q h => by
  obtain ⟨h1, h2⟩ := msk_some h
  rw [msk_out h1]
  exact f.1 b o (fun p => h1 (.inl (c.PB b p))) q h2
theorem Fr.new {c : EC} {n : Int} {H : Hp} {p : Addr} {o : HO} (g : c.G n H) (h : H p = none) : Fr c n H (upd H p o) := by
  refine ⟨fun b u _ _ e => ?_, c.Gm n H _ g (fun b u _ _ e => ?_) fun b u _ e => ?_⟩ <;> · rw [upd_ne (ne_of_none e h)]; exact e
/-- a name's slot -/
def SlOk (t : V) (M H : Hp) (ao : Option Addr) (s : Option (Option V)) : DV → Prop
  | .un => True
  | .tape => s = some (some t) ∧ ∃ a, t = .ref a
  | .raw v => s = some (some v)
  | .d x => ∃ v, s = some (some v) ∧ Rp M v x
  | .own ds => ∃ a vs, ao = some a ∧ s = some (some (.ref a)) ∧ H a = some (.lst vs) ∧ RpA M vs ds
  | .dic kvs => ∃ a ws, ao = some a ∧ s = some (some (.ref a)) ∧ H a = some (.dK ws) ∧ KRp M ws kvs
structure EnvA (c : EC) (A : Nat → Option Addr) (n : Int) (σ : L2.St) (H : Hp) (ρ : List DV) : Prop where
  keep : ∀ b o, ¬ c.P b → (∀ ps, o ≠ HO.tbl ps) → c.H0 b = some o → H b = some o
  g : c.G n H
  new : ∀ i a, A i = some a → Fresh c.H0 a
  has : ∀ i a, A i = some a → ∃ o, H a = some o ∧ ∀ ps, o ≠ HO.tbl ps
  inj : ∀ i j a, A i = some a → A j = some a → i = j
  slot : ∀ i x, ρ[i]? = some x → SlOk c.t (msk (c.av A) H) H (A i) (σ[i]?) x
  len : ρ.length = σ.length
  pin : ∀ p ∈ c.pins, Rp (msk (c.av A) H) p.1 p.2
  fin : ∃ N, ∀ k, N ≤ k → A k = none
  mine : ∀ i a x, A i = some a → ρ[i]? = some x → x.isOwn = true
section
variable {c : EC} {A : Nat → Option Addr} {n m : Int} {σ : L2.St} {H H' H1 : Hp} {ρ : List DV}
theorem EnvA.fr0 (E : EnvA c A n σ H ρ) : Fr c n c.H0 H := ⟨E.keep, E.g⟩
theorem EnvA.nP (E : EnvA c A n σ H ρ) {i : Nat} {a : Addr} (h : A i = some a) : ¬ c.B a := fun b => by
  obtain ⟨o, h1, h2⟩ := c.Bs a b
  obtain ⟨ps, e⟩ := E.new i a h o h1
  exact h2 ps e
theorem EnvA.there (E : EnvA c A n σ H ρ) {b : Addr} (h : c.av A b) : ∃ o, H b = some o ∧ ∀ ps, o ≠ HO.tbl ps := by
  rcases h with h | ⟨i, h⟩
  · by_cases p : c.P b
    · exact c.Gs n H b E.g p
    · obtain ⟨o, h1, h2⟩ := c.Bs b h
      exact ⟨o, E.keep b o p h2 h1, h2⟩
  · exact E.has i b h
theorem EnvA.apart (E : EnvA c A n σ H ρ) {b : Addr} (h : Fresh H b) : ¬ c.av A b := fun q => by
  obtain ⟨o, h1, h2⟩ := E.there q
  obtain ⟨ps, e⟩ := h o h1
  exact h2 ps e
theorem SlOk.ex {t : V} {M M' : Hp} {ao : Option Addr} {s : Option (Option V)} {x : DV} (h : SlOk t M H ao s x) (e : Xt M M') (k : ∀ a o, ao = some a → (∀ ps, o ≠ HO.tbl ps) → H a = some o → H' a = some o) : SlOk t M' H' ao s x := by
  cases x with
  | un => exact True.intro
  | tape => exact h
  | raw v => exact h
  | d x =>
    obtain ⟨v, h1, h2⟩ := h
    exact ⟨v, h1, h2.ex e⟩
  | own ds =>
    obtain ⟨a, vs, h1, h2, h3, h4⟩ := h
    exact ⟨a, vs, h1, h2, k a _ h1 (fun ps z => by cases z) h3, h4.ex e⟩
  | dic kvs =>
    obtain ⟨a, vs, h1, h2, h3, h4⟩ := h
    exact ⟨a, vs, h1, h2, k a _ h1 (fun ps z => by cases z) h3, h4.ex e⟩
theorem EnvA.fr (E : EnvA c A n σ H ρ) (f : Fr c m H H') : EnvA c A m σ H' ρ where
  keep := fun b o p q h => f.1 b o p q (E.keep b o p q h)
  g := f.2
  new := E.new
  has := fun i a h => by
    obtain ⟨o, h1, h2⟩ := E.has i a h
    exact ⟨o, f.1 a o (fun p => E.nP h (c.PB a p)) h2 h1, h2⟩
  inj := E.inj
  slot := fun i x h => (E.slot i x h).ex f.msk fun a o h1 h2 h3 => f.1 a o (fun p => E.nP h1 (c.PB a p)) h2 h3
  len := E.len
  pin := fun p hp => (E.pin p hp).ex f.msk
  fin := E.fin
  mine := E.mine
/-- what is told -/
def VOk (t : V) (B : Addr → Prop) (H : Hp) (v : V) (H' : Hp) : DV → Prop
  | .un => False
  | .tape => v = t ∧ ∃ a, t = .ref a
  | .raw _ => False
  | .d x => Rp (msk B H') v x
  | .own ds => ∃ a vs, v = .ref a ∧ Fresh H a ∧ H' a = some (.lst vs) ∧ RpA (msk (fun b => B b ∨ b = a) H') vs ds
  | .dic kvs => ∃ a ws, v = .ref a ∧ Fresh H a ∧ H' a = some (.dK ws) ∧ KRp (msk (fun b => B b ∨ b = a) H') ws kvs
/-- what is one's own is left as data -/
def DV.cold : DV → DV
  | .own ds => .d (.list ds)
  | x => x
theorem Fresh.fr (f : Fr c m H H') {a : Addr} (h : Fresh H' a) : Fresh H a := fun o e => by
  apply Classical.byContradiction
  intro no
  have t : ∀ ps, o ≠ HO.tbl ps := fun ps z => no ⟨ps, z⟩
  by_cases p : c.P a
  · obtain ⟨o', h1, h2⟩ := c.Gs m H' a f.2 p
    obtain ⟨ps, z⟩ := h o' h1
    exact h2 ps z
  · obtain ⟨ps, z⟩ := h o (f.1 a o p t e)
    exact t ps z
theorem VOk.mono (E : EnvA c A n σ H ρ) (f : Fr c m H H1) {v : V} {x : DV} (h : VOk c.t (c.av A) H1 v H' x) : VOk c.t (c.av A) H v H' x := by
  cases x with
  | un => exact h
  | tape => exact h
  | raw v => exact h
  | d x => exact h
  | own ds =>
    obtain ⟨a, vs, h1, h2, h3, h4⟩ := h
    exact ⟨a, vs, h1, h2.fr f, h3, h4⟩
  | dic kvs =>
    obtain ⟨a, vs, h1, h2, h3, h4⟩ := h
    exact ⟨a, vs, h1, h2.fr f, h3, h4⟩
/-- later it stands as it stood -/
theorem VOk.later (E : EnvA c A n σ H ρ) {m' : Int} {v : V} {x : DV} (h : VOk c.t (c.av A) H v H1 x) (f : Fr c m H H1) (f' : Fr c m' H1 H') : VOk c.t (c.av A) H v H' x := by
  have ap : ∀ {a : Addr}, Fresh H a → ¬ c.P a := fun fr p => E.apart fr (.inl (c.PB _ p))
  have xt : ∀ {a : Addr}, Xt (msk (fun b => c.av A b ∨ b = a) H1) (msk (fun b => c.av A b ∨ b = a) H') := fun {a} b o q h => by
    obtain ⟨h1, h2⟩ := msk_some h
    rw [msk_out h1]
    exact f'.1 b o (fun p => h1 (.inl (.inl (c.PB b p)))) q h2
  cases x with
  | un => exact h
  | tape => exact h
  | raw v => exact h
  | d x => exact Rp.ex h f'.msk
  | own ds =>
    obtain ⟨a, vs, h1, h2, h3, h4⟩ := h
    exact ⟨a, vs, h1, h2, f'.1 a _ (ap h2) (fun ps z => by cases z) h3, h4.ex xt⟩
  | dic kvs =>
    obtain ⟨a, vs, h1, h2, h3, h4⟩ := h
    exact ⟨a, vs, h1, h2, f'.1 a _ (ap h2) (fun ps z => by cases z) h3, h4.ex xt⟩
theorem VOk.cold (E : EnvA c A n σ H ρ) {v : V} {x : DV} (h : VOk c.t (c.av A) H v H' x) : VOk c.t (c.av A) H v H' x.cold := by
  cases x with
  | own ds =>
    obtain ⟨a, vs, rfl, h2, h3, h4⟩ := h
    refine .lst (by rw [msk_out (E.apart h2)]; exact h3) (h4.ex fun b o _ e => ?_)
    obtain ⟨h5, h6⟩ := msk_some e
    rw [msk_out fun z => h5 (.inl z)]
    exact h6
  | un => exact h
  | tape => exact h
  | raw v => exact h
  | d x => exact h
  | dic kvs => exact h
end
end

/-! ### data readings: expressions -/
section
variable [Fam] [Tabz]
abbrev DQ := DV → Int → Prop
abbrev DF := List DV → Int → DQ → Prop
abbrev DT := List DV → Int → (Bool → Int → Prop) → Prop
abbrev DA := List DV → Int → (List DV → Int → Prop) → Prop
def tD (f : DF) : TE := fun σ H Q => ∃ (c : EC) (A : Nat → Option Addr) (n : Int) (ρ : List DV) (Q' : DQ), EnvA c A n σ H ρ ∧ f ρ n Q' ∧ ∀ v r n' H', Q' r n' → Fr c n' H H' → VOk c.t (c.av A) H v H' r → Q v H'
def tDT (f : DT) : TT := fun σ H Q => ∃ (c : EC) (A : Nat → Option Addr) (n : Int) (ρ : List DV) (Q' : Bool → Int → Prop), EnvA c A n σ H ρ ∧ f ρ n Q' ∧ ∀ b n' H', Q' b n' → Fr c n' H H' → Q b H'
/-- arguments: what is one's own is told as data -/
inductive VsOk (t : V) (B : Addr → Prop) (H : Hp) (H' : Hp) : List V → List DV → Prop
  | nil : VsOk t B H H' [] []
  | cons {v : V} {r : DV} {vs : List V} {rs : List DV} : VOk t B H v H' r → r.cold = r → VsOk t B H H' vs rs → VsOk t B H H' (v :: vs) (r :: rs)
def tDA (f : DA) : TA := fun σ H Q => ∃ (c : EC) (A : Nat → Option Addr) (n : Int) (ρ : List DV) (Q' : List DV → Int → Prop), EnvA c A n σ H ρ ∧ f ρ n Q' ∧ ∀ vs rs n' H', Q' rs n' → Fr c n' H H' → VsOk c.t (c.av A) H H' vs rs → Q vs H'
theorem _root_.L2.PE.imp {X : Cx} {e : Expr} {t t' : TE} (h : PE X e t) (i : ∀ σ H Q, t' σ H Q → t σ H Q) : PE X e t' := ⟨fun pins s σ H Q I q => h.run pins s σ H Q I (i σ H Q q)⟩
theorem _root_.L2.PT.imp {X : Cx} {e : Expr} {t t' : TT} (h : PT X e t) (i : ∀ σ H Q, t' σ H Q → t σ H Q) : PT X e t' := ⟨fun pins s σ H Q I q => h.run pins s σ H Q I (i σ H Q q)⟩
theorem _root_.L2.PW.imp {X : Cx} {e : Expr} {t t' : TT} (h : PW X e t) (i : ∀ σ H Q, t' σ H Q → t σ H Q) : PW X e t' := ⟨fun whole pins s σ H Q I q => h.run whole pins s σ H Q I (i σ H Q q)⟩
theorem _root_.L2.PA.imp {X : Cx} {es : List Expr} {t t' : TA} (h : PA X es t) (i : ∀ σ H Q, t' σ H Q → t σ H Q) : PA X es t' := ⟨fun pos pins s σ H Q I q => h.run pos pins s σ H Q I (i σ H Q q)⟩
theorem _root_.L2.PSs.imp {X : Cx} {st : List Stmt} {t t' : TS} (h : PSs X st t) (i : ∀ D σ H, t' D σ H → t D σ H) : PSs X st t' := ⟨fun pins s σ H D I q => h.run pins s σ H D I (i D σ H q)⟩
theorem _root_.L2.PS.imp {X : Cx} {st : Stmt} {t t' : TS} (h : PS X st t) (i : ∀ D σ H, t' D σ H → t D σ H) : PS X st t' := ⟨fun pins s σ H D I q => h.run pins s σ H D I (i D σ H q)⟩

/-- a name -/
def dV (i : Nat) : DF := fun ρ n Q => (∃ d, ρ[i]? = some (.d d) ∧ Q (.d d) n) ∨ (ρ[i]? = some .tape ∧ Q .tape n)
theorem pdV {X : Cx} {i : Nat} {e : Expr} (h : PE X e (tVar i)) : PE X e (tD (dV i)) := h.imp fun σ H Q ⟨c, A, n, ρ, Q', E, hf, k⟩ => by
  rcases hf with ⟨d, h1, h2⟩ | ⟨h1, h2⟩
  · obtain ⟨v, h3, h4⟩ := E.slot i _ h1
    exact ⟨v, h3, k v _ n H h2 (.refl E.g) h4⟩
  · exact ⟨c.t, (E.slot i _ h1).1, k c.t _ n H h2 (.refl E.g) ⟨rfl, (E.slot i _ h1).2⟩⟩
def dC (d : PyData) : DF := fun _ n Q => Q (.d d) n
def datC : V → Option PyData
  | .non => some .none
  | .bl b => some (.bool b)
  | .int i => some (.int i)
  | .str x => some (.str x)
  | _ => none
theorem datC_rp {v : V} {d : PyData} {M : Hp} (h : datC v = some d) : Rp M v d := by
  cases v <;> simp [datC] at h <;> subst h <;> constructor
theorem pdC {X : Cx} {v : V} {d : PyData} {e : Expr} (h : PE X e (tC v)) (hd : datC v = some d := by rfl) : PE X e (tD (dC d)) := h.imp fun σ H Q ⟨c, A, n, ρ, Q', E, hf, k⟩ => k v _ n H hf (.refl E.g) (datC_rp hd)
/-- what is told, as data -/
def DV.dat : DV → Option PyData
  | .d x => some x
  | .own ds => some (.list ds)
  | _ => none
theorem VOk.dat {c : EC} {A : Nat → Option Addr} {n : Int} {σ : L2.St} {H H' : Hp} {ρ : List DV} (E : EnvA c A n σ H ρ) {v : V} {x : DV} {d : PyData} (h : VOk c.t (c.av A) H v H' x) (e : x.dat = some d) : Rp (msk (c.av A) H') v d := by
  have q := h.cold E
  cases x with
  | d y =>
    cases e
    exact q
  | own ds =>
    cases e
    exact q
  | _ => cases e
/-- operators by values -/
def R2D (r : R2) (op : PyData → PyData → Option DV) : Prop := ∀ (t : V) (B : Addr → Prop) (H : Hp) (v w : V) (a b : PyData) (z : DV) (Q : VK), (∀ b, B b → ∃ o, H b = some o) → Rp (msk B H) v a → Rp (msk B H) w b → op a b = some z →
  (∀ u H', (∀ p o, H p = some o → H' p = some o) → VOk t B H u H' z → Q u H') → r v w H Q
def R1D (r : V → Hp → VK → Prop) (op : PyData → Option DV) : Prop := ∀ (t : V) (B : Addr → Prop) (H : Hp) (v : V) (a : PyData) (z : DV) (Q : VK), (∀ b, B b → ∃ o, H b = some o) → Rp (msk B H) v a → op a = some z →
  (∀ u H', (∀ p o, H p = some o → H' p = some o) → VOk t B H u H' z → Q u H') → r v H Q
theorem Fr.same {c : EC} {n : Int} {H H' : Hp} (g : c.G n H) (s : ∀ p o, H p = some o → H' p = some o) : Fr c n H H' := ⟨fun b o _ _ h => s b o h, c.Gm n H H' g (fun b o _ _ h => s b o h) fun b o _ h => s b o h⟩
def dBin (op : PyData → PyData → Option DV) (f g : DF) : DF := fun ρ n Q => f ρ n fun x n1 => g ρ n1 fun y n2 => ∃ a, x.dat = some a ∧ ∃ b, y.dat = some b ∧ ∃ z, op a b = some z ∧ Q z n2
def dUn (op : PyData → Option DV) (f : DF) : DF := fun ρ n Q => f ρ n fun x n1 => ∃ a, x.dat = some a ∧ ∃ z, op a = some z ∧ Q z n1
theorem bin_le {r : R2} {op : PyData → PyData → Option DV} {f g : DF} (h : R2D r op) (σ : L2.St) (H : Hp) (Q : VK) (q : tD (dBin op f g) σ H Q) : tOp r (tD f) (tD g) σ H Q := by
  obtain ⟨c, A, n, ρ, Q', E, hf, k⟩ := q
  refine ⟨c, A, n, ρ, _, E, hf, fun v x n1 H1 hg f1 o1 => ⟨c, A, n1, ρ, _, E.fr f1, hg, fun w y n2 H2 hz f2 o2 => ?_⟩⟩
  obtain ⟨a, ea, b, eb, z, ez, hq⟩ := hz
  have E2 := (E.fr f1).fr f2
  refine h c.t (c.av A) H2 v w a b z Q (fun b hb => (E2.there hb).imp fun o h => h.1) ((o1.later E f1 f2).dat E ea) (o2.dat (E.fr f1) eb) ez fun u H' s o => ?_
  have f3 := Fr.same (H' := H') E2.g s
  exact k u z n2 H' hq ((f1.trans f2).trans f3) (VOk.mono E (f1.trans f2) o)
theorem un_le {r : V → Hp → VK → Prop} {op : PyData → Option DV} {f : DF} (h : R1D r op) (σ : L2.St) (H : Hp) (Q : VK) (q : tD (dUn op f) σ H Q) : tUn r (tD f) σ H Q := by
  obtain ⟨c, A, n, ρ, Q', E, hf, k⟩ := q
  refine ⟨c, A, n, ρ, _, E, hf, fun v x n1 H1 hz f1 o1 => ?_⟩
  obtain ⟨a, ea, z, ez, hq⟩ := hz
  have E1 := E.fr f1
  refine h c.t (c.av A) H1 v a z Q (fun b hb => (E1.there hb).imp fun o h => h.1) (o1.dat E ea) ez fun u H' s o => ?_
  exact k u z n1 H' hq (f1.trans (Fr.same E1.g s)) (VOk.mono E f1 o)
theorem pdOp {X : Cx} {o : Operator} {r : R2} {op : PyData → PyData → Option DV} {a b : Expr} {f g : DF} {pos : Pos} (hd : R2D r op) (ho : OpR X (binaryOp o) r) (ha : PE X a (tD f)) (hb : PE X b (tD g)) : PE X (.BinOp a o b pos) (tD (dBin op f g)) := (pe_op ho ha hb).imp (bin_le hd)
theorem pdCmp {X : Cx} {o : CmpOp} {r : R2} {op : PyData → PyData → Option DV} {a b : Expr} {f g : DF} {pos : Pos} (hd : R2D r op) (ho : OpR X (compareOp o) r) (ha : PE X a (tD f)) (hb : PE X b (tD g)) (hm : behindInMarks o b = false) : PE X (.Compare a [o] [b] pos) (tD (dBin op f g)) := (pe_cmpR ho ha hb hm).imp (bin_le hd)
theorem pdIx {X : Cx} {r : R2} {op : PyData → PyData → Option DV} {a b : Expr} {f g : DF} {pos : Pos} (hd : R2D r op) (hr : IxR X r) (ha : PE X a (tD f)) (hb : PE X b (tD g)) (hs : PlainIx b) : PE X (.Subscript a b pos) (tD (dBin op f g)) := (pe_ix hr ha hb hs).imp (bin_le hd)
theorem pdUn {X : Cx} {o : UnaryOp} {r : V → Hp → VK → Prop} {op : PyData → Option DV} {a : Expr} {f : DF} {pos : Pos} (hd : R1D r op) (ho : UnR X (unaryOp o) r) (ha : PE X a (tD f)) : PE X (.UnaryOp o a pos) (tD (dUn op f)) := (pe_un ho ha).imp (un_le hd)
/-- tests -/
def dTest (f : DF) : DT := fun ρ n Q => f ρ n fun x n1 => ∃ b, x = .d (.bool b) ∧ Q b n1
theorem test_le {te : TE} {f : DF} (h : ∀ σ H Q, tD f σ H Q → te σ H Q) (σ : L2.St) (H : Hp) (Q : Bool → Hp → Prop) (q : tDT (dTest f) σ H Q) : te σ H fun x H1 => ∃ b, x = .bl b ∧ Q b H1 := by
  obtain ⟨c, A, n, ρ, Q', E, hf, k⟩ := q
  refine h σ H _ ⟨c, A, n, ρ, _, E, hf, fun v r n' H' ⟨b, e, hq⟩ f1 o1 => ?_⟩
  subst e
  cases o1
  exact ⟨b, rfl, k b n' H' hq f1⟩
theorem ptCmp {X : Cx} {o : CmpOp} {r : R2} {op : PyData → PyData → Option DV} {a b : Expr} {f g : DF} {pos : Pos} (hd : R2D r op) (ho : OpR X (compareOp o) r) (ha : PE X a (tD f)) (hb : PE X b (tD g)) (hm : behindInMarks o b = false) : PT X (.Compare a [o] [b] pos) (tDT (dTest (dBin op f g))) :=
  (pt_cmpR ho ha hb hm).imp fun σ H Q q => test_le (bin_le hd) σ H Q q
theorem ptVal {X : Cx} {e : Expr} {f : DF} (h : PE X e (tD f)) (he : ∀ whole, isTrue e X.env whole = (do let v ← whole; standAt e.pos; holding [v] (truthy v)) := by intro _; rfl) : PT X e (tDT (dTest f)) := (pt_val h he).imp fun σ H Q q => test_le (fun _ _ _ z => z) σ H Q q
def dNot (t : DT) : DT := fun ρ n Q => t ρ n fun b n1 => Q (!b) n1
def dAnd (t u : DT) : DT := fun ρ n Q => t ρ n fun b n1 => if b = true then u ρ n1 Q else Q false n1
def dOr (t u : DT) : DT := fun ρ n Q => t ρ n fun b n1 => if b = true then Q true n1 else u ρ n1 Q
theorem not_le {t : DT} (σ : L2.St) (H : Hp) (Q : Bool → Hp → Prop) (q : tDT (dNot t) σ H Q) : tNot (tDT t) σ H Q := by
  obtain ⟨c, A, n, ρ, Q', E, hf, k⟩ := q
  exact ⟨c, A, n, ρ, _, E, hf, fun b n' H' hq f1 => k _ n' H' hq f1⟩
theorem and_le {t u : DT} (σ : L2.St) (H : Hp) (Q : Bool → Hp → Prop) (q : tDT (dAnd t u) σ H Q) : tAnd (tDT t) (tDT u) σ H Q := by
  obtain ⟨c, A, n, ρ, Q', E, hf, k⟩ := q
  refine ⟨c, A, n, ρ, _, E, hf, fun b n' H' hq f1 => ?_⟩
  cases b with
  | true => exact ⟨c, A, n', ρ, Q', E.fr f1, hq, fun b2 n2 H2 h2 f2 => k b2 n2 H2 h2 (f1.trans f2)⟩
  | false => exact k false n' H' hq f1
theorem or_le {t u : DT} (σ : L2.St) (H : Hp) (Q : Bool → Hp → Prop) (q : tDT (dOr t u) σ H Q) : tOr (tDT t) (tDT u) σ H Q := by
  obtain ⟨c, A, n, ρ, Q', E, hf, k⟩ := q
  refine ⟨c, A, n, ρ, _, E, hf, fun b n' H' hq f1 => ?_⟩
  cases b with
  | false => exact ⟨c, A, n', ρ, Q', E.fr f1, hq, fun b2 n2 H2 h2 f2 => k b2 n2 H2 h2 (f1.trans f2)⟩
  | true => exact k true n' H' hq f1
theorem ptNot {X : Cx} {a : Expr} {t : DT} {pos : Pos} (h : PT X a (tDT t)) : PT X (.UnaryOp .Not a pos) (tDT (dNot t)) := (pt_not h).imp not_le
theorem pwAnd1 {X : Cx} {a : Expr} {t : DT} {pos : Pos} (h : PT X a (tDT t)) : PW X (.BoolOp .And [a] pos) (tDT t) := pw_and1 h
theorem pwOr1 {X : Cx} {a : Expr} {t : DT} {pos : Pos} (h : PT X a (tDT t)) : PW X (.BoolOp .Or [a] pos) (tDT t) := pw_or1 h
theorem pwAnd {X : Cx} {a b : Expr} {rest : List Expr} {t u : DT} {pos : Pos} (h : PT X a (tDT t)) (h2 : PW X (.BoolOp .And (b :: rest) pos) (tDT u)) : PW X (.BoolOp .And (a :: b :: rest) pos) (tDT (dAnd t u)) := (pw_and h h2).imp and_le
theorem pwOr {X : Cx} {a b : Expr} {rest : List Expr} {t u : DT} {pos : Pos} (h : PT X a (tDT t)) (h2 : PW X (.BoolOp .Or (b :: rest) pos) (tDT u)) : PW X (.BoolOp .Or (a :: b :: rest) pos) (tDT (dOr t u)) := (pw_or h h2).imp or_le
def dIf (t : DT) (f g : DF) : DF := fun ρ n Q => t ρ n fun b n1 => if b = true then f ρ n1 Q else g ρ n1 Q
theorem pdIf {X : Cx} {c a b : Expr} {t : DT} {f g : DF} {pos : Pos} (hc : PT X c (tDT t)) (ha : PE X a (tD f)) (hb : PE X b (tD g)) : PE X (.IfExp c a b pos) (tD (dIf t f g)) := (pe_ifExp hc ha hb).imp fun σ H Q ⟨c, A, n, ρ, Q', E, hf, k⟩ => by
  refine ⟨c, A, n, ρ, _, E, hf, fun b n' H' hq f1 => ?_⟩
  cases b with
  | true => exact ⟨c, A, n', ρ, Q', E.fr f1, hq, fun v r n2 H2 h2 f2 o2 => k v r n2 H2 h2 (f1.trans f2) (VOk.mono E f1 o2)⟩
  | false => exact ⟨c, A, n', ρ, Q', E.fr f1, hq, fun v r n2 H2 h2 f2 o2 => k v r n2 H2 h2 (f1.trans f2) (VOk.mono E f1 o2)⟩
/-- truth values joined, not -/
def dAndV (f g : DF) : DF := fun ρ n Q => f ρ n fun x n1 => ∃ b, x = .d (.bool b) ∧ if b = true then g ρ n1 Q else Q (.d (.bool false)) n1
def dOrV (f g : DF) : DF := fun ρ n Q => f ρ n fun x n1 => ∃ b, x = .d (.bool b) ∧ if b = true then Q (.d (.bool true)) n1 else g ρ n1 Q
def dNotV (f : DF) : DF := fun ρ n Q => f ρ n fun x n1 => ∃ b, x = .d (.bool b) ∧ Q (.d (.bool (!b))) n1
theorem pdAnd {X : Cx} {a b : Expr} {rest : List Expr} {f g : DF} {pos : Pos} (ha : PE X a (tD f)) (hb : PE X (.BoolOp .And (b :: rest) pos) (tD g)) : PE X (.BoolOp .And (a :: b :: rest) pos) (tD (dAndV f g)) := (pe_and ha hb).imp fun σ H Q ⟨c, A, n, ρ, Q', E, hf, k⟩ => by
  refine ⟨c, A, n, ρ, _, E, hf, fun v r n' H' ⟨b, e, hq⟩ f1 o1 => ?_⟩
  subst e
  cases o1
  refine ⟨b, rfl, ?_⟩
  cases b with
  | true => exact ⟨c, A, n', ρ, Q', E.fr f1, hq, fun v r n2 H2 h2 f2 o2 => k v r n2 H2 h2 (f1.trans f2) (VOk.mono E f1 o2)⟩
  | false => exact k _ _ n' H' hq f1 (Rp.bl false)
theorem pdOr {X : Cx} {a b : Expr} {rest : List Expr} {f g : DF} {pos : Pos} (ha : PE X a (tD f)) (hb : PE X (.BoolOp .Or (b :: rest) pos) (tD g)) : PE X (.BoolOp .Or (a :: b :: rest) pos) (tD (dOrV f g)) := (pe_or ha hb).imp fun σ H Q ⟨c, A, n, ρ, Q', E, hf, k⟩ => by
  refine ⟨c, A, n, ρ, _, E, hf, fun v r n' H' ⟨b, e, hq⟩ f1 o1 => ?_⟩
  subst e
  cases o1
  refine ⟨b, rfl, ?_⟩
  cases b with
  | false => exact ⟨c, A, n', ρ, Q', E.fr f1, hq, fun v r n2 H2 h2 f2 o2 => k v r n2 H2 h2 (f1.trans f2) (VOk.mono E f1 o2)⟩
  | true => exact k _ _ n' H' hq f1 (Rp.bl true)
theorem pdNot {X : Cx} {a : Expr} {f : DF} {pos : Pos} (ha : PE X a (tD f)) : PE X (.UnaryOp .Not a pos) (tD (dNotV f)) := (pe_not ha).imp fun σ H Q ⟨c, A, n, ρ, Q', E, hf, k⟩ => by
  refine ⟨c, A, n, ρ, _, E, hf, fun v r n' H' ⟨b, e, hq⟩ f1 o1 => ?_⟩
  subst e
  cases o1
  exact ⟨b, rfl, k _ _ n' H' hq f1 (Rp.bl _)⟩
/-- arguments -/
def dNil : DA := fun _ n Q => Q [] n
def dCons (f : DF) (g : DA) : DA := fun ρ n Q => f ρ n fun x n1 => g ρ n1 fun xs n2 => Q (x.cold :: xs) n2
theorem VsOk.mono {c : EC} {A : Nat → Option Addr} {n m : Int} {σ : L2.St} {H H1 H' : Hp} {ρ : List DV} (E : EnvA c A n σ H ρ) (f : Fr c m H H1) : ∀ {vs : List V} {rs : List DV}, VsOk c.t (c.av A) H1 H' vs rs → VsOk c.t (c.av A) H H' vs rs
  | _, _, .nil => .nil
  | _, _, .cons h e t => .cons (h.mono E f) e (VsOk.mono E f t)
theorem cold_cold (r : DV) : r.cold.cold = r.cold := by cases r <;> rfl
theorem paNil {X : Cx} : PA X [] (tDA dNil) := pa_nil.imp fun σ H Q ⟨c, A, n, ρ, Q', E, hf, k⟩ => k [] [] n H hf (.refl E.g) .nil
theorem paCons {X : Cx} {e : Expr} {es : List Expr} {f : DF} {g : DA} (ha : PE X e (tD f)) (hr : PA X es (tDA g)) (hs : starEach (e :: es) X.env = (false, eval e X.env) :: starEach es X.env := by rfl) : PA X (e :: es) (tDA (dCons f g)) := (pa_cons ha hr hs).imp fun σ H Q ⟨c, A, n, ρ, Q', E, hf, k⟩ => by
  refine ⟨c, A, n, ρ, _, E, hf, fun v x n1 H1 hg f1 o1 => ⟨c, A, n1, ρ, _, E.fr f1, hg, fun vs rs n2 H2 hq f2 o2 => ?_⟩⟩
  exact k (v :: vs) _ n2 H2 hq (f1.trans f2) (.cons ((o1.later E f1 f2).cold E) (cold_cold _) (o2.mono E f1))
/-- all of them data -/
def datsOf : List DV → Option (List PyData)
  | [] => some []
  | x :: xs => match x.dat, datsOf xs with
    | some d, some ds => some (d :: ds)
    | _, _ => none
theorem VsOk.dats {c : EC} {A : Nat → Option Addr} {n : Int} {σ : L2.St} {H H' : Hp} {ρ : List DV} (E : EnvA c A n σ H ρ) : ∀ {vs : List V} {rs : List DV} {ds : List PyData}, VsOk c.t (c.av A) H H' vs rs → datsOf rs = some ds → RpA (msk (c.av A) H') vs ds
  | _, _, _, .nil, e => by
    cases e
    exact .nil
  | _, _, ds, .cons (r := r) (rs := rs) h _ t, e => by
    unfold datsOf at e
    split at e
    · cases e
      exact .cons (h.dat E (by assumption)) (VsOk.dats E t (by assumption))
    · cases e
/-- displays -/
def dLst (g : DA) : DF := fun ρ n Q => g ρ n fun rs n1 => ∃ ds, datsOf rs = some ds ∧ ds.length ≤ 100000 ∧ Q (.own ds) n1
def dTup (g : DA) : DF := fun ρ n Q => g ρ n fun rs n1 => ∃ ds, datsOf rs = some ds ∧ ds.length ≤ 100000 ∧ Q (.d (.tuple ds)) n1
theorem big_line {n : Nat} (h : n ≤ 100000) : n ≤ sizeLine := Nat.le_trans h (by decide)
theorem big_lt {n : Nat} (h : n < 100000) : n < sizeLine := Nat.lt_of_lt_of_le h (by decide)
theorem own_new {c : EC} {A : Nat → Option Addr} {n : Int} {σ : L2.St} {H : Hp} {ρ : List DV} (E : EnvA c A n σ H ρ) {p : Addr} {vs : List V} {ds : List PyData} (hp : H p = none) (h : RpA (msk (c.av A) H) vs ds) : VOk c.t (c.av A) H (.ref p) (upd H p (.lst vs)) (.own ds) := by
  refine ⟨p, vs, rfl, .of hp, upd_same, h.ex fun b o _ e => ?_⟩
  obtain ⟨h1, h2⟩ := msk_some e
  have ne : b ≠ p := ne_of_none h2 hp
  rw [msk_out (fun z => z.elim h1 ne), upd_ne ne]
  exact h2
theorem tup_new {c : EC} {A : Nat → Option Addr} {n : Int} {σ : L2.St} {H : Hp} {ρ : List DV} (E : EnvA c A n σ H ρ) {p : Addr} {vs : List V} {ds : List PyData} (hp : H p = none) (h : RpA (msk (c.av A) H) vs ds) : VOk c.t (c.av A) H (.ref p) (upd H p (.tup vs)) (.d (.tuple ds)) := by
  refine .tup (by rw [msk_out (E.apart (.of hp))]; exact upd_same) (h.ex fun b o _ e => ?_)
  obtain ⟨h1, h2⟩ := msk_some e
  have ne : b ≠ p := ne_of_none h2 hp
  rw [msk_out h1, upd_ne ne]
  exact h2
theorem pdLst {X : Cx} {es : List Expr} {g : DA} {pos : Pos} (h : PA X es (tDA g)) : PE X (.List es pos) (tD (dLst g)) := (pe_lst h).imp fun σ H Q ⟨c, A, n, ρ, Q', E, hf, k⟩ => by
  refine ⟨c, A, n, ρ, _, E, hf, fun vs rs n1 H1 ⟨ds, e1, e2, hq⟩ f1 o1 => ?_⟩
  have r := o1.dats E e1
  refine ⟨big_line (by rw [r.length]; exact e2), fun p hp => ?_⟩
  have E1 := E.fr f1
  exact k _ _ n1 _ hq (f1.trans (Fr.new E1.g hp)) (VOk.mono E f1 (own_new E1 hp r))
theorem pdTup {X : Cx} {es : List Expr} {g : DA} {pos : Pos} {x1} (h : PA X es (tDA g)) : PE X (.Tuple es x1 pos) (tD (dTup g)) := (pe_tup h).imp fun σ H Q ⟨c, A, n, ρ, Q', E, hf, k⟩ => by
  refine ⟨c, A, n, ρ, _, E, hf, fun vs rs n1 H1 ⟨ds, e1, e2, hq⟩ f1 o1 => ?_⟩
  have r := o1.dats E e1
  refine ⟨big_line (by rw [r.length]; exact e2), fun p hp => ?_⟩
  have E1 := E.fr f1
  exact k _ _ n1 _ hq (f1.trans (Fr.new E1.g hp)) (VOk.mono E f1 (tup_new E1 hp r))
/-- calls of what is known by values, all data -/
def RsD (r : List V → Hp → VK → Prop) (op : List PyData → Option DV) : Prop := ∀ (t : V) (B : Addr → Prop) (H : Hp) (vs : List V) (as : List PyData) (z : DV) (Q : VK), (∀ b, B b → ∃ o, H b = some o) → RpA (msk B H) vs as → op as = some z →
  (∀ u H', (∀ p o, H p = some o → H' p = some o) → VOk t B H u H' z → Q u H') → r vs H Q
def dB (op : List PyData → Option DV) (g : DA) : DF := fun ρ n Q => g ρ n fun rs n1 => ∃ ds, datsOf rs = some ds ∧ ∃ z, op ds = some z ∧ Q z n1
theorem cb_le {r : List V → Hp → VK → Prop} {op : List PyData → Option DV} {g : DA} (h : RsD r op) (σ : L2.St) (H : Hp) (Q : VK) (q : tD (dB op g) σ H Q) : tCB r (tDA g) σ H Q := by
  obtain ⟨c, A, n, ρ, Q', E, hf, k⟩ := q
  refine ⟨c, A, n, ρ, _, E, hf, fun vs rs n1 H1 ⟨ds, e1, z, ez, hq⟩ f1 o1 => ?_⟩
  have E1 := E.fr f1
  refine h c.t (c.av A) H1 vs ds z Q (fun b hb => (E1.there hb).imp fun o h => h.1) (o1.dats E e1) ez fun u H' s o => ?_
  exact k u z n1 H' hq (f1.trans (Fr.same E1.g s)) (VOk.mono E f1 o)
theorem pdB {X : Cx} {id : String} {x : Str} {p pos : Pos} {e : Expr} {es : List Expr} {r : List V → Hp → VK → Prop} {op : List PyData → Option DV} {g : DA} (hd : RsD r op) (hc : CallR X (.builtin id) r) (hg : Gl X x) (hm : X.mg x = none) (hv : bootBuiltins x = some (.builtin id)) (ha : PA X (e :: es) (tDA g)) (hn : x ≠ "__name__" := by decide) (hdb : (x == ("__debug__" : Str)) = false := by decide)
    (he : starEach (e :: es) X.env = (false, eval e X.env) :: starEach es X.env := by rfl) (hpl : (backTo pos (starEach es X.env)).any (·.1) = false := by rfl) : PE X (.Call (.Name x p) (e :: es) [] pos) (tD (dB op g)) := (pe_callB hc hg hm hv ha hn hdb he hpl).imp (cb_le hd)
theorem pdTy {X : Cx} {T : String} {x : Str} {p pos : Pos} {e : Expr} {es : List Expr} {r : List V → Hp → VK → Prop} {op : List PyData → Option DV} {g : DA} (hd : RsD r op) (hc : CallR X (.type T) r) (hg : Gl X x) (hm : X.mg x = none) (hv : bootBuiltins x = some (.type T)) (ha : PA X (e :: es) (tDA g)) (hn : x ≠ "__name__" := by decide) (hdb : (x == ("__debug__" : Str)) = false := by decide)
    (he : starEach (e :: es) X.env = (false, eval e X.env) :: starEach es X.env := by rfl) (hpl : (backTo pos (starEach es X.env)).any (·.1) = false := by rfl) : PE X (.Call (.Name x p) (e :: es) [] pos) (tD (dB op g)) := (pe_callTy hc hg hm hv ha hn hdb he hpl).imp (cb_le hd)
/-- calls of defs -/
abbrev DM := List DV → Int → DQ → Prop
def spD (m : DM) : Sp := fun vs H Q _ => ∃ (c : EC) (n : Int) (rs : List DV) (Q' : DQ), c.H0 = H ∧ c.G n H ∧ c.pins = [] ∧ VsOk c.t c.B H H vs rs ∧ m rs n Q' ∧ ∀ v r n' H', Q' r n' → Fr c n' H H' → VOk c.t c.B H v H' r → Q v H'
def dCall (m : DM) (g : DA) : DF := fun ρ n Q => g ρ n fun rs n1 => m rs n1 Q
/-- the caller's place as the callee's -/
def EnvA.ec {c : EC} {A : Nat → Option Addr} {n : Int} {σ : L2.St} {H : Hp} {ρ : List DV} (E : EnvA c A n σ H ρ) : EC :=
  { H0 := H, B := c.av A, t := c.t, u := c.u, pins := [], PB := fun a p => .inl (c.PB a p), Bs := fun a h => E.there h }
theorem VsOk.now {c : EC} {A : Nat → Option Addr} {n m : Int} {σ : L2.St} {H H1 : Hp} {ρ : List DV} (E : EnvA c A n σ H ρ) : ∀ {vs : List V} {rs : List DV}, VsOk c.t (c.av A) H H1 vs rs → (∀ r ∈ rs, (∃ d, r = .d d) ∨ r = DV.tape) → VsOk c.t (c.av A) H1 H1 vs rs
  | _, _, .nil, _ => .nil
  | _, _, .cons (r := r) h ec t, a => by
    refine .cons ?_ ec (VsOk.now (m := m) E t fun r hr => a r (List.mem_cons_of_mem _ hr))
    rcases a _ List.mem_cons_self with ⟨d, e⟩ | e <;> rw [e] at h ⊢ <;> exact h
def plainR (rs : List DV) : Prop := ∀ r ∈ rs, (∃ d, r = .d d) ∨ r = DV.tape
theorem call_le {m : DM} {g : DA} (hpl : ∀ rs n Q, m rs n Q → plainR rs) (E0 : XK) (σ : L2.St) (H : Hp) (Q : VK) (q : tD (dCall m g) σ H Q) : tCall (spD m) [] E0 (tDA g) σ H Q := by
  obtain ⟨c, A, n, ρ, Q', E, hf, k⟩ := q
  refine ⟨c, A, n, ρ, _, E, hf, fun vs rs n1 H1 hm f1 o1 => ?_⟩
  have E1 := E.fr f1
  show spD m (vs ++ []) H1 Q E0
  rw [List.append_nil]
  refine ⟨E1.ec, n1, rs, Q', rfl, E1.g, rfl, o1.now (m := n1) E (hpl _ _ _ hm), hm, fun v r n' H' hq f2 o2 => ?_⟩
  exact k v r n' H' hq (f1.trans f2) (VOk.mono E f1 o2)
theorem pdCall {X : Cx} {CX : CXT} {k : Nat} {f : Addr} {fd : FuncData} {ps : List Str} {m : DM} {x : Str} {p pos : Pos} {e : Expr} {es : List Expr} {g : DA} {E0 : XK} (hpl : ∀ rs n Q, m rs n Q → plainR rs) (F : FnOk X.prog X.w X.K X.mg X.base CX k f fd ps (spD m)) (hr : Room k X.A) (hg : Gl X x) (hm : X.mg x = some (.ref f)) (hk : PySem.W.keepIn X.K (.ref f) = true) (hb : Binds X.K fd ps []) (hx : Passes CX X E0)
    (ha : PA X (e :: es) (tDA g)) (hdb : (x == ("__debug__" : Str)) = false := by decide) (he : starEach (e :: es) X.env = (false, eval e X.env) :: starEach es X.env := by rfl) (hpl2 : (backTo pos (starEach es X.env)).any (·.1) = false := by rfl) :
    PE X (.Call (.Name x p) (e :: es) [] pos) (tD (dCall m g)) := (pe_call F hr hg hm hk hb .nil hx ha hdb he hpl2).imp (call_le hpl E0)
end

/-! ### data readings: statements -/
section
variable [Fam] [Tabz]
section
variable {c : EC} {A : Nat → Option Addr} {n m : Int} {σ : L2.St} {H H' H1 : Hp} {ρ : List DV}
theorem EnvA.put' (E : EnvA c A n σ H ρ) (f : Fr c m H H') {i : Nat} {A' : Nat → Option Addr} (same : ∀ j, j ≠ i → A' j = A j) (mine : ∀ a, A' i = some a → Fresh H a ∧ ∃ o, H' a = some o ∧ ∀ ps, o ≠ HO.tbl ps) {v : V} {r : DV}
    (h : SlOk c.t (msk (c.av A') H') H' (A' i) (some (some v)) r) (hi : i < ρ.length) (ow : ∀ a, A' i = some a → r.isOwn = true) : EnvA c A' m (σ.set i (some v)) H' (ρ.set i r) := by
  have xt : Xt (msk (c.av A) H) (msk (c.av A') H') := fun b o q e => by
    obtain ⟨h1, h2⟩ := msk_some e
    have nb : ¬ c.B b := fun z => h1 (.inl z)
    have na : ¬ c.av A' b := by
      rintro (z | ⟨j, z⟩)
      · exact nb z
      · by_cases e : j = i
        · subst e
          obtain ⟨ps, z2⟩ := (mine b z).1 o h2
          exact q ps z2
        · rw [same j e] at z
          exact h1 (.inr ⟨j, z⟩)
    rw [msk_out na]
    exact f.1 b o (fun p => nb (c.PB b p)) q h2
  refine ⟨fun b o p q e => f.1 b o p q (E.keep b o p q e), f.2, fun j a e => ?_, fun j a e => ?_, fun j k a ej ek => ?_, fun j x e => ?_, by rw [List.length_set, List.length_set]; exact E.len, fun p hp => (E.pin p hp).ex xt, ?_, fun j a x e1 e2 => ?_⟩
  · by_cases z : j = i
    · subst z
      exact (mine a e).1.fr E.fr0
    · exact E.new j a (by rw [← same j z]; exact e)
  · by_cases z : j = i
    · subst z
      exact (mine a e).2
    · exact (E.fr f).has j a (by rw [← same j z]; exact e)
  · have key : ∀ {j : Nat}, j ≠ i → A' j = some a → A' i = some a → False := fun {j} z e1 e2 => by
      rw [same j z] at e1
      obtain ⟨o, h1, h2⟩ := E.has j a e1
      obtain ⟨ps, h3⟩ := (mine a e2).1 o h1
      exact h2 ps h3
    by_cases z : j = i
    · subst z
      by_cases z2 : k = j
      · exact z2.symm
      · exact (key z2 ek ej).elim
    · by_cases z2 : k = i
      · subst z2
        exact (key z ej ek).elim
      · exact E.inj j k a (by rw [← same j z]; exact ej) (by rw [← same k z2]; exact ek)
  · by_cases z : j = i
    · subst z
      rw [List.getElem?_set_self hi] at e
      cases e
      rw [List.getElem?_set_self (by rw [← E.len]; exact hi)]
      exact h
    · rw [List.getElem?_set_ne (fun q => z q.symm)] at e ⊢
      rw [same j z]
      exact (E.slot j x e).ex xt fun a o h1 h2 h3 => f.1 a o (fun p => E.nP h1 (c.PB a p)) h2 h3
  · obtain ⟨N, hN⟩ := E.fin
    refine ⟨max N (i + 1), fun k hk => ?_⟩
    rw [same k (by have := Nat.le_trans (Nat.le_max_right N (i + 1)) hk; omega)]
    exact hN k (Nat.le_trans (Nat.le_max_left _ _) hk)
  · by_cases z : j = i
    · subst z
      rw [List.getElem?_set_self hi] at e2
      cases e2
      exact ow a e1
    · rw [List.getElem?_set_ne (fun q => z q.symm)] at e2
      rw [same j z] at e1
      exact E.mine j a x e1 e2
theorem EnvA.put (E : EnvA c A n σ H ρ) (f : Fr c m H H') {i : Nat} {v : V} {r : DV} (h : VOk c.t (c.av A) H v H' r) (hi : i < ρ.length) : ∃ A', EnvA c A' m (σ.set i (some v)) H' (ρ.set i r) := by
  have drop : ∀ {b : Addr}, c.av (fun j => if j = i then none else A j) b → c.av A b := fun {b} z => by
    rcases z with z | ⟨j, z⟩
    · exact .inl z
    · have z' : (if j = i then none else A j) = some b := z
      split at z'
      · cases z'
      · exact .inr ⟨j, z'⟩
  have d1 : Xt (msk (c.av A) H') (msk (c.av (fun j => if j = i then none else A j)) H') := fun b o _ e => by
    obtain ⟨h1, h2⟩ := msk_some e
    rw [msk_out fun z => h1 (drop z)]
    exact h2
  have s1 : ∀ j, j ≠ i → (fun j => if j = i then none else A j) j = A j := fun j z => by show (if j = i then none else A j) = _; rw [if_neg z]
  have m1 : ∀ a, (fun j => if j = i then none else A j) i = some a → Fresh H a ∧ ∃ o, H' a = some o ∧ ∀ ps, o ≠ HO.tbl ps := fun a z => by
    have z' : (if i = i then none else A i) = some a := z
    rw [if_pos rfl] at z'
    cases z'
  have s2 : ∀ p j, j ≠ i → (fun j => if j = i then some p else A j) j = A j := fun p j z => by show (if j = i then some p else A j) = _; rw [if_neg z]
  have d2 : ∀ p, Xt (msk (fun b => c.av A b ∨ b = p) H') (msk (c.av (fun j => if j = i then some p else A j)) H') := fun p b o _ e => by
    obtain ⟨h1, h2⟩ := msk_some e
    rw [msk_out]
    · exact h2
    · rintro (z | ⟨j, z⟩)
      · exact h1 (.inl (.inl z))
      · have z' : (if j = i then some p else A j) = some b := z
        split at z'
        · cases z'
          exact h1 (.inr rfl)
        · exact h1 (.inl (.inr ⟨j, z'⟩))
  have i2 : ∀ p : Addr, (fun j => if j = i then some p else A j) i = some p := fun p => by show (if i = i then some p else A i) = some p; rw [if_pos rfl]
  cases r with
  | un => exact h.elim
  | raw v => exact h.elim
  | tape =>
    exact ⟨_, E.put' f s1 m1 ⟨congrArg (fun x => some (some x)) h.1, h.2⟩ hi (fun a z => by rw [if_pos rfl] at z; cases z)⟩
  | d x => exact ⟨_, E.put' f s1 m1 ⟨v, rfl, Rp.ex h d1⟩ hi (fun a z => by rw [if_pos rfl] at z; cases z)⟩
  | own ds =>
    obtain ⟨a, vs, rfl, h2, h3, h4⟩ := h
    exact ⟨_, E.put' (A' := fun j => if j = i then some a else A j) f (s2 a) (fun b z => by rw [if_pos rfl] at z; cases z; exact ⟨h2, _, h3, fun ps z => by cases z⟩) ⟨a, vs, i2 a, rfl, h3, h4.ex (d2 a)⟩ hi (fun _ _ => rfl)⟩
  | dic kvs =>
    obtain ⟨a, vs, rfl, h2, h3, h4⟩ := h
    exact ⟨_, E.put' (A' := fun j => if j = i then some a else A j) f (s2 a) (fun b z => by rw [if_pos rfl] at z; cases z; exact ⟨h2, _, h3, fun ps z => by cases z⟩) ⟨a, vs, i2 a, rfl, h3, h4.ex (d2 a)⟩ hi (fun _ _ => rfl)⟩
/-- one's own list, one's own dict is changed -/
theorem EnvA.mut (E : EnvA c A n σ H ρ) {i : Nat} {a : Addr} {o u : HO} {r : DV} (hA : A i = some a) (ho : H a = some o) (ty : (∃ xs, o = .lst xs) ∨ ∃ kvs, o = .dK kvs) (hu : ∀ ps, u ≠ HO.tbl ps)
    (h : SlOk c.t (msk (c.av A) H) (upd H a u) (A i) (σ[i]?) r) (ow : i < ρ.length → r.isOwn = true) : EnvA c A n σ (upd H a u) (ρ.set i r) := by
  have av : c.av A a := .inr ⟨i, hA⟩
  have mk : msk (c.av A) (upd H a u) = msk (c.av A) H := by
    funext b
    by_cases z : c.av A b
    · unfold msk
      rw [if_pos z, if_pos z]
    · rw [msk_out z, msk_out z, upd_ne (fun e => z (by rw [e]; exact av))]
  have ne : ∀ {b : Addr} {o' : HO}, H b = some o' → (∀ xs, o' ≠ HO.lst xs) → (∀ kvs, o' ≠ HO.dK kvs) → b ≠ a := fun {b o'} e l d z => by
    rw [z, ho] at e
    cases e
    rcases ty with ⟨xs, q⟩ | ⟨kvs, q⟩
    · exact l xs q
    · exact d kvs q
  refine ⟨fun b o' p q e => ?_, c.Gm n H _ E.g (fun b o' l d e => by rw [upd_ne (ne e l d)]; exact e) fun b o' p e => ?_, E.new, fun j b e => ?_, E.inj, fun j x e => ?_, by rw [List.length_set]; exact E.len, fun p hp => by rw [mk]; exact E.pin p hp, E.fin, fun j b x e1 e2 => ?_⟩
  · rw [upd_ne]
    · exact E.keep b o' p q e
    · intro z
      rw [z] at e
      obtain ⟨ps, z2⟩ := E.new i a hA o' e
      exact q ps z2
  · rw [upd_ne]
    · exact e
    · intro z
      rw [z] at p
      exact E.nP hA (c.PB a p)
  · by_cases z : b = a
    · subst z
      exact ⟨u, upd_same, hu⟩
    · rw [upd_ne z]
      exact E.has j b e
  · rw [mk]
    by_cases z : j = i
    · subst z
      have hj : j < ρ.length := by
        have := (List.getElem?_eq_some_iff.mp e).1
        rwa [List.length_set] at this
      rw [List.getElem?_set_self hj] at e
      cases e
      exact h
    · rw [List.getElem?_set_ne (fun q => z q.symm)] at e
      refine (E.slot j x e).ex (fun b o' _ h => h) fun b o' h1 h2 h3 => ?_
      rw [upd_ne]
      · exact h3
      · intro q
        rw [q] at h1
        exact z (E.inj j i a h1 hA)
  · by_cases z : j = i
    · subst z
      have hj : j < ρ.length := by
        have := (List.getElem?_eq_some_iff.mp e2).1
        rwa [List.length_set] at this
      rw [List.getElem?_set_self hj] at e2
      cases e2
      exact ow hj
    · rw [List.getElem?_set_ne (fun q => z q.symm)] at e2
      exact E.mine j b x e1 e2
/-- what is one's own is left as data -/
theorem EnvA.frz (E : EnvA c A n σ H ρ) (i : Nat) : EnvA c (fun j => if j = i then none else A j) n σ H (match ρ[i]? with | some (.own ds) => ρ.set i (.d (.list ds)) | some (.dic _) => ρ.set i .un | _ => ρ) := by
  have drop : ∀ {b : Addr}, c.av (fun j => if j = i then none else A j) b → c.av A b := fun {b} z => by
    rcases z with z | ⟨j, z⟩
    · exact .inl z
    · have z' : (if j = i then none else A j) = some b := z
      split at z'
      · cases z'
      · exact .inr ⟨j, z'⟩
  have xt : Xt (msk (c.av A) H) (msk (c.av (fun j => if j = i then none else A j)) H) := fun b o _ e => by
    obtain ⟨h1, h2⟩ := msk_some e
    rw [msk_out fun z => h1 (drop z)]
    exact h2
  have up : ∀ {j : Nat} {a : Addr}, (fun j => if j = i then none else A j) j = some a → j ≠ i ∧ A j = some a := fun {j a} z => by
    have z' : (if j = i then none else A j) = some a := z
    split at z'
    · cases z'
    · exact ⟨by assumption, z'⟩
  have other : ∀ (ρ' : List DV) j x, j ≠ i → ρ[j]? = some x → SlOk c.t (msk (c.av (fun j => if j = i then none else A j)) H) H ((fun j => if j = i then none else A j) j) (σ[j]?) x := fun ρ' j x z e => by
    show SlOk _ _ _ (if j = i then none else A j) _ _
    rw [if_neg z]
    exact (E.slot j x e).ex xt fun _ _ _ _ h => h
  have base : ∀ ρ' : List DV, ρ'.length = ρ.length → (∀ j, j ≠ i → ρ'[j]? = ρ[j]?) → (∀ j x, ρ'[j]? = some x → SlOk c.t (msk (c.av (fun j => if j = i then none else A j)) H) H ((fun j => if j = i then none else A j) j) (σ[j]?) x) → EnvA c (fun j => if j = i then none else A j) n σ H ρ' := fun ρ' hl ho hs =>
    ⟨E.keep, E.g, fun j a e => E.new j a (up e).2, fun j a e => E.has j a (up e).2, fun j k a e1 e2 => E.inj j k a (up e1).2 (up e2).2, hs, by rw [hl]; exact E.len, fun p hp => (E.pin p hp).ex xt, by
      obtain ⟨N, hN⟩ := E.fin
      exact ⟨N, fun k hk => by
        show (if k = i then none else A k) = none
        split
        · rfl
        · exact hN k hk⟩, fun j a x e1 e2 => E.mine j a x (up e1).2 (by rw [← ho j (up e1).1]; exact e2)⟩
  have set : ∀ y, SlOk c.t (msk (c.av (fun j => if j = i then none else A j)) H) H ((fun j => if j = i then none else A j) i) (σ[i]?) y → EnvA c (fun j => if j = i then none else A j) n σ H (ρ.set i y) := fun y hy => base _ (List.length_set ..) (fun j z => List.getElem?_set_ne fun q => z q.symm) fun j x e => by
    by_cases z : j = i
    · subst z
      have hj : j < ρ.length := by
        have := (List.getElem?_eq_some_iff.mp e).1
        rwa [List.length_set] at this
      rw [List.getElem?_set_self hj] at e
      cases e
      exact hy
    · rw [List.getElem?_set_ne (fun q => z q.symm)] at e
      exact other ρ j x z e
  have rest : (∀ x, ρ[i]? = some x → (∀ ds, x ≠ .own ds) ∧ ∀ kvs, x ≠ .dic kvs) → EnvA c (fun j => if j = i then none else A j) n σ H ρ := fun nx => base ρ rfl (fun _ _ => rfl) fun j x e => by
    by_cases z : j = i
    · subst z
      obtain ⟨n1, n2⟩ := nx x e
      have q := E.slot j x e
      cases x with
      | un => exact True.intro
      | tape => exact q
      | raw v => exact q
      | d y =>
        obtain ⟨v, h1, h2⟩ := q
        exact ⟨v, h1, h2.ex xt⟩
      | own ds => exact (n1 ds rfl).elim
      | dic kvs => exact (n2 kvs rfl).elim
    · exact other ρ j x z e
  split
  · rename_i ds e
    obtain ⟨a, vs, h1, h2, h3, h4⟩ := E.slot i _ e
    refine set _ ⟨.ref a, h2, .lst ?_ (h4.ex xt)⟩
    rw [msk_out]
    · exact h3
    · rintro (z | ⟨j, z⟩)
      · exact E.nP h1 z
      · exact (up z).1 (E.inj j i a (up z).2 h1)
  · exact set _ True.intro
  · rename_i n1 n2
    exact rest fun x e => ⟨fun ds z => n1 ds (by rw [e, z]), fun kvs z => n2 kvs (by rw [e, z])⟩
end
def frzV : DV → DV
  | .own ds => .d (.list ds)
  | .dic _ => .un
  | x => x
def frz : Nat → List DV → List DV
  | _, [] => []
  | 0, x :: xs => frzV x :: xs
  | i + 1, x :: xs => x :: frz i xs
theorem frz_eq : ∀ (i : Nat) (ρ : List DV), (match ρ[i]? with | some (.own ds) => ρ.set i (.d (.list ds)) | some (.dic _) => ρ.set i .un | _ => ρ) = frz i ρ
  | i, [] => by simp [frz]
  | 0, x :: xs => by cases x <;> rfl
  | i + 1, x :: xs => by
    show _ = x :: frz i xs
    rw [← frz_eq i xs, List.getElem?_cons_succ]
    split <;> rfl
structure DE where
  nx : List DV → Int → Prop
  rt : DQ
  bk : List DV → Int → Prop := fun _ _ => False
  ct : List DV → Int → Prop := fun _ _ => False
abbrev DS := DE → List DV → Int → Prop
structure Link (c : EC) (E : DE) (D : Ends) : Prop where
  nx : ∀ A n σ H ρ, E.nx ρ n → EnvA c A n σ H ρ → D.nx σ H
  rt : ∀ v r n H', E.rt r n → Fr c n c.H0 H' → VOk c.t c.B c.H0 v H' r → D.rt v H'
  bk : ∀ A n σ H ρ, E.bk ρ n → EnvA c A n σ H ρ → D.bk σ H
  ct : ∀ A n σ H ρ, E.ct ρ n → EnvA c A n σ H ρ → D.ct σ H
def sD (F : DS) : TS := fun D σ H => ∃ (c : EC) (A : Nat → Option Addr) (n : Int) (ρ : List DV) (E : DE), EnvA c A n σ H ρ ∧ F E ρ n ∧ Link c E D
def dSeq (F G : DS) : DS := fun E ρ n => F { E with nx := G E } ρ n
def dNext : DS := fun E ρ n => E.nx ρ n
theorem psCons {X : Cx} {st : Stmt} {rest : List Stmt} {F G : DS} (h : PS X st (sD F)) (h2 : PSs X rest (sD G)) : PSs X (st :: rest) (sD (dSeq F G)) := (pss_cons h h2).imp fun D σ H ⟨c, A, n, ρ, E, e, hf, L⟩ =>
  ⟨c, A, n, ρ, _, e, hf, fun A n σ H ρ h e' => ⟨c, A, n, ρ, E, e', h, L⟩, L.rt, L.bk, L.ct⟩
theorem psOne {X : Cx} {st : Stmt} {F : DS} (h : PS X st (sD F)) : PSs X [st] (sD F) := pss_one h
theorem psFrz {X : Cx} {st : List Stmt} {F : DS} (i : Nat) (h : PSs X st (sD F)) : PSs X st (sD fun E ρ n => F E (frz i ρ) n) := h.imp fun D σ H ⟨c, A, n, ρ, E, e, hf, L⟩ => ⟨c, _, n, _, E, (frz_eq i ρ) ▸ e.frz i, hf, L⟩
def dSet (i : Nat) (f : DF) : DS := fun E ρ n => f ρ n fun r n1 => i < ρ.length ∧ E.nx (ρ.set i r) n1
theorem set_le {i : Nat} {f : DF} (D : Ends) (σ : L2.St) (H : Hp) (q : sD (dSet i f) D σ H) : tAsg (tD f) (gName i) D σ H := by
  obtain ⟨c, A, n, ρ, E, e, hf, L⟩ := q
  refine ⟨c, A, n, ρ, _, e, hf, fun v r n1 H1 ⟨hi, h1⟩ f1 o1 => ?_⟩
  obtain ⟨A', e'⟩ := e.put f1 o1 hi
  exact L.nx _ _ _ _ _ h1 e'
theorem psSet {X : Cx} {i : Nat} {x : Str} {e : Expr} {f : DF} {pos' pos : Pos} (hN : X.N.Nodup) (hi : X.N[i]? = some x) (hx : Loc X.env.scope x) (he : PE X e (tD f)) (hs : swapsWith e (some (.Name x pos')) pos.line X.env = pure false := by rfl) (hf : X.fn x = true ∨ X.env.scope.names.lookup x = some .local := by first | exact .inl rfl | exact .inr rfl | assumption) :
    PS X (.Assign [.Name x pos'] e pos) (sD (dSet i f)) := (ps_set hN hi hx he hs hf).imp set_le
theorem VOk.home {c : EC} {A : Nat → Option Addr} {n m : Int} {σ : L2.St} {H H' : Hp} {ρ : List DV} (E : EnvA c A n σ H ρ) {v : V} {r : DV} (h : VOk c.t (c.av A) H v H' r) : VOk c.t c.B c.H0 v H' r := by
  have xt : Xt (msk (c.av A) H') (msk c.B H') := fun b o _ e => by
    obtain ⟨h1, h2⟩ := msk_some e
    rw [msk_out fun z => h1 (.inl z)]
    exact h2
  have xt2 : ∀ a, Xt (msk (fun b => c.av A b ∨ b = a) H') (msk (fun b => c.B b ∨ b = a) H') := fun a b o _ e => by
    obtain ⟨h1, h2⟩ := msk_some e
    rw [msk_out fun z => h1 (z.elim (fun z => .inl (.inl z)) .inr)]
    exact h2
  cases r with
  | un => exact h
  | tape => exact h
  | raw v => exact h
  | d x => exact Rp.ex h xt
  | own ds =>
    obtain ⟨a, vs, h1, h2, h3, h4⟩ := h
    exact ⟨a, vs, h1, h2.fr E.fr0, h3, h4.ex (xt2 a)⟩
  | dic kvs =>
    obtain ⟨a, vs, h1, h2, h3, h4⟩ := h
    exact ⟨a, vs, h1, h2.fr E.fr0, h3, h4.ex (xt2 a)⟩
def dRet (f : DF) : DS := fun E ρ n => f ρ n E.rt
theorem psRet {X : Cx} {e : Expr} {f : DF} {pos : Pos} (he : PE X e (tD f)) : PS X (.Return (some e) pos) (sD (dRet f)) := (ps_ret he).imp fun D σ H ⟨c, A, n, ρ, E, e, hf, L⟩ =>
  ⟨c, A, n, ρ, _, e, hf, fun v r n1 H1 h1 f1 o1 => L.rt v r n1 H1 h1 (e.fr0.trans f1) (o1.home (m := n1) e)⟩
def dIfS (t : DT) (F G : DS) : DS := fun E ρ n => t ρ n fun b n1 => if b = true then F E ρ n1 else G E ρ n1
theorem psIf {X : Cx} {c : Expr} {a b : List Stmt} {t : DT} {F G : DS} {pos : Pos} (hc : PT X c (tDT t)) (ha : PSs X a (sD F)) (hb : PSs X b (sD G)) : PS X (.If c a b pos) (sD (dIfS t F G)) := (ps_if hc ha hb).imp fun D σ H ⟨c, A, n, ρ, E, e, hf, L⟩ => by
  refine ⟨c, A, n, ρ, _, e, hf, fun b n1 H1 h1 f1 => ?_⟩
  cases b with
  | true => exact ⟨c, A, n1, ρ, E, e.fr f1, h1, L⟩
  | false => exact ⟨c, A, n1, ρ, E, e.fr f1, h1, L⟩
theorem psNil {X : Cx} : PSs X [] (sD dNext) := pss_nil.imp fun D σ H ⟨c, A, n, ρ, E, e, hf, L⟩ => L.nx _ _ _ _ _ hf e
theorem psBrk {X : Cx} {pos : Pos} : PS X (.Break pos) (sD fun E ρ n => E.bk ρ n) := ps_break.imp fun D σ H ⟨c, A, n, ρ, E, e, hf, L⟩ => L.bk _ _ _ _ _ hf e
theorem psCnt {X : Cx} {pos : Pos} : PS X (.Continue pos) (sD fun E ρ n => E.ct ρ n) := ps_continue.imp fun D σ H ⟨c, A, n, ρ, E, e, hf, L⟩ => L.ct _ _ _ _ _ hf e
def dExp (f : DF) : DS := fun E ρ n => f ρ n fun _ n1 => E.nx ρ n1
theorem psExp {X : Cx} {e : Expr} {f : DF} {pos : Pos} (he : PE X e (tD f)) (hs : swapsWith e none pos.line X.env = pure false := by rfl) : PS X (.Expr e pos) (sD (dExp f)) := (ps_expr he hs).imp fun D σ H ⟨c, A, n, ρ, E, e, hf, L⟩ =>
  ⟨c, A, n, ρ, _, e, hf, fun v r n1 H1 h1 f1 o1 => L.nx _ _ _ _ _ h1 (e.fr f1)⟩
def dAug (i : Nat) (op : Int → Int → Int) (f : DF) : DS := fun E ρ n => ∃ a, ρ[i]? = some (.d (.int a)) ∧ f ρ n fun r n1 => ∃ b, r = .d (.int b) ∧ E.nx (ρ.set i (.d (.int (op a b)))) n1
theorem psAug {X : Cx} {i : Nat} {x : Str} {e : Expr} {o : Operator} {op : Int → Int → Int} {f : DF} {pos' pos : Pos} (hN : X.N.Nodup) (hi : X.N[i]? = some x) (hx : Loc X.env.scope x) (ho : PIp X o (ipI op)) (he : PE X e (tD f)) (hf : X.fn x = true ∨ X.env.scope.names.lookup x = some .local := by first | exact .inl rfl | exact .inr rfl | assumption) :
    PS X (.AugAssign (.Name x pos') o e pos) (sD (dAug i op f)) := (ps_aug hN hi hx he ho hf).imp fun D σ H ⟨c, A, n, ρ, E, e, ⟨a, ha, hf⟩, L⟩ => by
  obtain ⟨v, h1, h2⟩ := e.slot i _ ha
  cases h2
  refine ⟨_, h1, c, A, n, ρ, _, e, hf, fun w r n1 H1 ⟨b, e1, h3⟩ f1 o1 => ?_⟩
  subst e1
  cases o1
  refine ⟨a, b, rfl, rfl, ?_⟩
  obtain ⟨A', e'⟩ := (e.fr f1).put (.refl f1.2) (i := i) (v := .int (op a b)) (r := .d (.int (op a b))) (Rp.int _) (List.getElem?_eq_some_iff.mp ha).1
  exact L.nx _ _ _ _ _ h3 e'
/-- xs.append(e), xs.extend(e), xs a list of one's own -/
def dApp (i : Nat) (f : DF) : DS := fun E ρ n => f ρ n fun r n1 => ∃ ds, ρ[i]? = some (.own ds) ∧ ∃ d, r.dat = some d ∧ ds.length < 100000 ∧ E.nx (ρ.set i (.own (ds ++ [d]))) n1
def dExt (i : Nat) (f : DF) : DS := fun E ρ n => f ρ n fun r n1 => ∃ ds, ρ[i]? = some (.own ds) ∧ ∃ es, r.dat = some (.list es) ∧ ds.length + es.length ≤ 100000 ∧ E.nx (ρ.set i (.own (ds ++ es))) n1
theorem set_self {ρ : List DV} {i : Nat} {x : DV} (h : ρ[i]? = some x) : ρ.set i x = ρ := by
  apply List.ext_getElem?
  intro j
  by_cases e : i = j
  · subst e
    rw [List.getElem?_set_self (List.getElem?_eq_some_iff.mp h).1, h]
  · rw [List.getElem?_set_ne e]
theorem psApp {X : Cx} {i : Nat} {e : Expr} {f : DF} {pos : Pos} (hs : swapsWith e none pos.line X.env = pure false) (h : PE X e (tBM X.K "list" rAppend (tVar i) (tCons (tD f) tNil))) : PS X (.Expr e pos) (sD (fun E ρ n => (∃ ds, ρ[i]? = some (.own ds)) ∧ dApp i f E ρ n)) := (ps_expr h hs).imp fun D σ H ⟨c, A, n, ρ, E, e, ⟨⟨ds0, h0⟩, hf⟩, L⟩ => by
  obtain ⟨a, vs, h1, h2, h3, h4⟩ := e.slot i _ h0
  refine ⟨_, h2, .inl ⟨rfl, _, SqL.of h3⟩, c, A, n, ρ, _, e, hf, fun v r n1 H1 ⟨ds, g1, d, g2, g3, g4⟩ f1 o1 => ?_⟩
  have e1 := e.fr f1
  rw [h0] at g1
  cases g1
  obtain ⟨a', vs', k1, k2, k3, k4⟩ := e1.slot i _ h0
  rw [h1] at k1
  cases k1
  have rv := o1.dat e g2
  refine ⟨a, vs', v, rfl, rfl, k3, big_lt (by rw [k4.length]; exact g3), ?_⟩
  exact L.nx _ _ _ _ _ g4 (e1.mut h1 k3 (.inl ⟨_, rfl⟩) (fun ps z => by cases z) ⟨a, _, h1, h2, upd_same, k4.app (.one rv)⟩ fun _ => rfl)
theorem psExt {X : Cx} {i : Nat} {e : Expr} {f : DF} {pos : Pos} (hs : swapsWith e none pos.line X.env = pure false) (h : PE X e (tBM X.K "list" rExtend (tVar i) (tCons (tD f) tNil))) : PS X (.Expr e pos) (sD (fun E ρ n => (∃ ds, ρ[i]? = some (.own ds)) ∧ dExt i f E ρ n)) := (ps_expr h hs).imp fun D σ H ⟨c, A, n, ρ, E, e, ⟨⟨ds0, h0⟩, hf⟩, L⟩ => by
  obtain ⟨a, vs, h1, h2, h3, h4⟩ := e.slot i _ h0
  refine ⟨_, h2, .inl ⟨rfl, _, SqL.of h3⟩, c, A, n, ρ, _, e, hf, fun v r n1 H1 ⟨ds, g1, es, g2, g3, g4⟩ f1 o1 => ?_⟩
  have e1 := e.fr f1
  rw [h0] at g1
  cases g1
  obtain ⟨a', vs', k1, k2, k3, k4⟩ := e1.slot i _ h0
  rw [h1] at k1
  cases k1
  have rv := o1.dat e g2
  cases rv with
  | lst hb rb =>
    refine ⟨a, _, vs', _, rfl, rfl, k3, (msk_some hb).2, big_line (by rw [k4.length, rb.length]; exact g3), ?_⟩
    exact L.nx _ _ _ _ _ g4 (e1.mut h1 k3 (.inl ⟨_, rfl⟩) (fun ps z => by cases z) ⟨a, _, h1, h2, upd_same, k4.app rb⟩ fun _ => rfl)
/-- a look at one's own: what is told is no list and no tuple -/
def PyData.flat0 : PyData → Bool
  | .none => true
  | .bool _ => true
  | .int _ => true
  | .str _ => true
  | _ => false
def dPeek (f : DF) : DF := fun ρ n Q => f (ρ.map DV.cold) n fun r n1 => ∃ d, r = .d d ∧ PyData.flat0 d = true ∧ Q r n1
theorem EnvA.colds {c : EC} {A : Nat → Option Addr} {n : Int} {σ : L2.St} {H : Hp} {ρ : List DV} (E : EnvA c A n σ H ρ) : ∃ A', EnvA c A' n σ H ((ρ.map DV.cold).map fun x => match x with | .dic _ => .un | y => y) := by
  have av : ∀ {b : Addr}, ¬ c.B b → ¬ c.av (fun _ => none) b := fun nb z => by
    rcases z with z | ⟨j, z⟩
    · exact nb z
    · cases z
  have xt : Xt (msk (c.av A) H) (msk (c.av (fun _ => none)) H) := fun b o _ e => by
    obtain ⟨h1, h2⟩ := msk_some e
    rw [msk_out (av fun z => h1 (.inl z))]
    exact h2
  refine ⟨fun _ => none, E.keep, E.g, fun i a e => (by cases e), fun i a e => (by cases e), fun i j a e => (by cases e), fun i x e => ?_, by rw [List.length_map, List.length_map]; exact E.len, fun p hp => (E.pin p hp).ex xt, ⟨0, fun _ _ => rfl⟩, fun i a x e => (by cases e)⟩
  rw [List.getElem?_map, List.getElem?_map] at e
  cases h : ρ[i]? with
  | none =>
    rw [h] at e
    cases e
  | some y =>
    rw [h] at e
    have q := E.slot i y h
    cases y with
    | un => cases e; exact True.intro
    | tape => cases e; exact q
    | raw v => cases e; exact q
    | d z =>
      cases e
      obtain ⟨v, h1, h2⟩ := q
      exact ⟨v, h1, h2.ex xt⟩
    | own ds =>
      cases e
      obtain ⟨a, vs, h1, h2, h3, h4⟩ := q
      refine ⟨.ref a, h2, .lst ?_ (h4.ex xt)⟩
      rw [msk_out (av (E.nP h1))]
      exact h3
    | dic kvs => cases e; exact True.intro
theorem flat_rp {d : PyData} {M M' : Hp} {v : V} (h : PyData.flat0 d = true) (r : Rp M v d) : Rp M' v d := by
  cases r with
  | lst _ _ => cases h
  | tup _ _ => cases h
  | non => exact .non
  | bl b => exact .bl b
  | int i => exact .int i
  | str x => exact .str x
def coldD : List DV → List DV := fun ρ => (ρ.map DV.cold).map fun x => match x with | .dic _ => .un | y => y
def dPk (f : DF) : DF := fun ρ n Q => f (coldD ρ) n fun r n1 => ∃ d, r = .d d ∧ PyData.flat0 d = true ∧ Q r n1
theorem pdPk {X : Cx} {e : Expr} {f : DF} (h : PE X e (tD f)) : PE X e (tD (dPk f)) := h.imp fun σ H Q ⟨c, A, n, ρ, Q', E, hf, k⟩ => by
  obtain ⟨A', E'⟩ := E.colds
  refine ⟨c, A', n, _, _, E', hf, fun v r n1 H1 ⟨d, e1, e2, h1⟩ f1 o1 => ?_⟩
  subst e1
  exact k v _ n1 H1 h1 f1 (flat_rp e2 o1)
end

/-! ### data readings: targets, loops, comprehensions, defs -/
section
variable [Fam] [Tabz]
abbrev DG := PyData → List DV → Option (List DV)
/-- a target: it changes the slots of sl alone -/
def gD (sl : List Nat) (g : DG) : TG := fun v σ H Q => ∃ (c : EC) (A : Nat → Option Addr) (n : Int) (ρ ρ' : List DV) (d : PyData), EnvA c A n σ H ρ ∧ Rp (msk (c.av A) H) v d ∧ g d ρ = some ρ' ∧
  ∀ A' σ', EnvA c A' n σ' H ρ' → σ'.length = σ.length → (∀ j, j ∉ sl → σ'[j]? = σ[j]? ∧ A' j = A j) → Q σ' H
def gDs (sl : List Nat) (g : List PyData → List DV → Option (List DV)) : TGs := fun vs σ H Q => ∃ (c : EC) (A : Nat → Option Addr) (n : Int) (ρ ρ' : List DV) (ds : List PyData), EnvA c A n σ H ρ ∧ RpA (msk (c.av A) H) vs ds ∧ g ds ρ = some ρ' ∧
  ∀ A' σ', EnvA c A' n σ' H ρ' → σ'.length = σ.length → (∀ j, j ∉ sl → σ'[j]? = σ[j]? ∧ A' j = A j) → Q σ' H
theorem _root_.L2.PG.imp {X : Cx} {e : Expr} {t t' : TG} (h : PG X e t) (i : ∀ v σ H Q, t' v σ H Q → t v σ H Q) : PG X e t' := ⟨fun pins s σ H v u Q I r q => h.run pins s σ H v u Q I r (i v σ H Q q)⟩
theorem _root_.L2.PGs.imp {X : Cx} {e : List Expr} {t t' : TGs} (h : PGs X e t) (i : ∀ v σ H Q, t' v σ H Q → t v σ H Q) : PGs X e t' := ⟨fun pins s σ H v u Q I r q => h.run pins s σ H v u Q I r (i v σ H Q q)⟩
def gN (i : Nat) : DG := fun d ρ => if i < ρ.length then some (ρ.set i (.d d)) else none
theorem EnvA.putD {c : EC} {A : Nat → Option Addr} {n : Int} {σ : L2.St} {H : Hp} {ρ : List DV} (E : EnvA c A n σ H ρ) {i : Nat} {v : V} {d : PyData} (r : Rp (msk (c.av A) H) v d) (hi : i < ρ.length) : EnvA c (fun j => if j = i then none else A j) n (σ.set i (some v)) H (ρ.set i (.d d)) := by
  refine E.put' (.refl E.g) (fun j z => by show (if j = i then none else A j) = _; rw [if_neg z]) (fun a z => ?_) ⟨v, rfl, r.ex fun b o _ e => ?_⟩ hi (fun a z => by rw [if_pos rfl] at z; cases z)
  · have z' : (if i = i then none else A i) = some a := z
    rw [if_pos rfl] at z'
    cases z'
  · obtain ⟨h1, h2⟩ := msk_some e
    rw [msk_out]
    · exact h2
    · rintro (z | ⟨j, z⟩)
      · exact h1 (.inl z)
      · have z' : (if j = i then none else A j) = some b := z
        split at z'
        · cases z'
        · exact h1 (.inr ⟨j, z'⟩)
  
theorem pgN {X : Cx} {i : Nat} {e : Expr} (h : PG X e (gName i)) : PG X e (gD [i] (gN i)) := h.imp fun v σ H Q ⟨c, A, n, ρ, ρ', d, E, r, hg, k⟩ => by
  unfold gN at hg
  split at hg
  · rename_i hi
    cases hg
    refine k _ _ (E.putD r hi) (List.length_set ..) fun j hj => ⟨List.getElem?_set_ne fun z => hj (by rw [z]; exact List.mem_singleton.mpr rfl), ?_⟩
    show (if j = i then none else A j) = A j
    rw [if_neg fun z => hj (by rw [z]; exact List.mem_singleton.mpr rfl)]
  · cases hg
def gNone : List PyData → List DV → Option (List DV) := fun ds ρ => match ds with | [] => some ρ | _ => none
def gMore (g : DG) (gs : List PyData → List DV → Option (List DV)) : List PyData → List DV → Option (List DV) := fun ds ρ => match ds with | [] => none | d :: ds => match g d ρ with | none => none | some ρ' => gs ds ρ'
theorem RpA.zips {M : Hp} : ∀ {vs : List V} {ds : List PyData}, RpA M vs ds → ∀ p ∈ List.zip vs ds, Rp M p.1 p.2
  | _, _, .nil => fun p hp => by cases hp
  | _, _, .cons r t => fun p hp => by
    rcases List.mem_cons.mp hp with e | e
    · rw [e]; exact r
    · exact RpA.zips t p e
theorem RpA.of_zips {M : Hp} : ∀ {vs : List V} {ds : List PyData}, vs.length = ds.length → (∀ p ∈ List.zip vs ds, Rp M p.1 p.2) → RpA M vs ds
  | [], [], _, _ => .nil
  | [], _ :: _, e, _ => by cases e
  | _ :: _, [], e, _ => by cases e
  | v :: vs, d :: ds, e, h => .cons (h (v, d) List.mem_cons_self) (RpA.of_zips (Nat.succ.inj e) fun p hp => h p (List.mem_cons_of_mem _ hp))
theorem pgNil {X : Cx} : PGs X [] (gDs [] gNone) := pgs_nil.imp fun vs σ H Q ⟨c, A, n, ρ, ρ', ds, E, r, hg, k⟩ => by
  unfold gNone at hg
  split at hg
  · cases hg
    cases r
    exact ⟨rfl, k A σ E rfl fun j _ => ⟨rfl, rfl⟩⟩
  · cases hg
theorem pgCons {X : Cx} {e : Expr} {es : List Expr} {s1 s2 : List Nat} {g : DG} {gs : List PyData → List DV → Option (List DV)} (h1 : PG X e (gD s1 g)) (h2 : PGs X es (gDs s2 gs))
    (hs : (assignEach (e :: es) X.env).map (·.2) = assign e X.env :: (assignEach es X.env).map (·.2) := by rfl) : PGs X (e :: es) (gDs (s1 ++ s2) (gMore g gs)) := (pgs_cons h1 h2 hs).imp fun vs σ H Q ⟨c, A, n, ρ, ρ', ds, E, r, hg, k⟩ => by
  unfold gMore at hg
  cases r with
  | nil => cases hg
  | @cons v vs d ds r rs =>
    have hg' : (match g d ρ with | none => none | some ρ' => gs ds ρ') = some ρ' := hg
    cases q : g d ρ with
    | none => rw [q] at hg'; cases hg'
    | some ρ1 =>
      rw [q] at hg'
      have Ep : EnvA (c.pin (List.zip vs ds)) A n σ H ρ := ⟨E.keep, E.g, E.new, E.has, E.inj, E.slot, E.len, fun p hp => by
        rcases List.mem_append.mp hp with hp | hp
        · exact rs.zips p hp
        · exact E.pin p hp, E.fin, E.mine⟩
      refine ⟨v, vs, rfl, c.pin (List.zip vs ds), A, n, ρ, ρ1, d, Ep, r, q, fun A1 σ1 E1 l1 o1 => ?_⟩
      have rs1 : RpA (msk (c.av A1) H) vs ds := by
        exact RpA.of_zips rs.length fun p hp => E1.pin p (List.mem_append.mpr (.inl hp))
      have E1' : EnvA c A1 n σ1 H ρ1 := ⟨E1.keep, E1.g, E1.new, E1.has, E1.inj, E1.slot, E1.len, fun p hp => E1.pin p (List.mem_append.mpr (.inr hp)), E1.fin, E1.mine⟩
      refine ⟨c, A1, n, ρ1, ρ', ds, E1', rs1, hg', fun A2 σ2 E2 l2 o2 => k A2 σ2 E2 (l2.trans l1) fun j hj => ?_⟩
      have n1 : j ∉ s1 := fun z => hj (List.mem_append.mpr (.inl z))
      have n2 : j ∉ s2 := fun z => hj (List.mem_append.mpr (.inr z))
      exact ⟨(o2 j n2).1.trans (o1 j n1).1, (o2 j n2).2.trans (o1 j n1).2⟩
def gTp (n : Nat) (gs : List PyData → List DV → Option (List DV)) : DG := fun d ρ => match d with | .tuple ds => if ds.length = n then gs ds ρ else none | _ => none
theorem pgTup {X : Cx} {es : List Expr} {k : Nat} {sl : List Nat} {gs : List PyData → List DV → Option (List DV)} {pos : Pos} {n : Nat} (hc : X.calm = true) (h : PGs X es (gDs sl gs))
    (hn : (assignEach es X.env).length = n := by rfl) (hst : (assignEach es X.env).findIdx? (·.1) = none := by rfl) : PG X (.Tuple es k pos) (gD sl (gTp n gs)) := (pg_tup hc h hn hst).imp fun v σ H Q ⟨c, A, m, ρ, ρ', d, E, r, hg, k⟩ => by
  unfold gTp at hg
  split at hg
  · split at hg
    · rename_i ds hl
      cases r with
      | tup h1 h2 => exact ⟨_, _, rfl, SqT.of (msk_some h1).2, by rw [h2.length]; exact hl, c, A, m, ρ, ρ', ds, E, h2, hg, k⟩
    · cases hg
  · cases hg
/-- a, b = e -/
def dAsg (g : DG) (f : DF) : DS := fun E ρ n => f ρ n fun r n1 => ∃ d, r.dat = some d ∧ ∃ ρ', g d ρ = some ρ' ∧ E.nx ρ' n1
theorem psAsg {X : Cx} {tg e : Expr} {f : DF} {sl : List Nat} {g : DG} {pos : Pos} (he : PE X e (tD f)) (hg : PG X tg (gD sl g)) (hs : swapsWithSole [tg] e pos.line X.env = pure false := by rfl) (hw : swappedStores [tg] e X.env = pure none := by rfl) (h1 : (assignEach [tg] X.env).map (·.2) = [assign tg X.env] := by rfl) : PS X (.Assign [tg] e pos) (sD (dAsg g f)) := (ps_asg he hg hs hw h1).imp fun D σ H ⟨c, A, n, ρ, E, e, hf, L⟩ =>
  ⟨c, A, n, ρ, _, e, hf, fun v r n1 H1 ⟨d, e1, ρ', e2, h1⟩ f1 o1 => ⟨c, A, n1, ρ, ρ', d, e.fr f1, o1.dat e e1, e2, fun A' σ' E' _ _ => L.nx _ _ _ _ _ h1 E'⟩⟩
/-- what is walked: ds, one by one, by J, while what is pinned stands -/
def WD (c : EC) (l : List (V × PyData)) (J : It) (ds : List PyData) : Prop := ∀ A n σ H ρ, EnvA (c.pin l) A n σ H ρ →
  (∀ i d, ds[i]? = some d → J.go i H ∧ ∀ x H2, J.yld i H x H2 → (∀ b o, H b = some o → H2 b = some o) ∧ Rp (msk (c.av A) H2) x d) ∧ J.stop ds.length H
abbrev DI := List DV → Int → (List PyData → Int → Prop) → Prop
def iD (f : DI) : TI := fun σ H R => ∃ (c : EC) (A : Nat → Option Addr) (n : Int) (ρ : List DV) (Q' : List PyData → Int → Prop), EnvA c A n σ H ρ ∧ f ρ n Q' ∧ ∀ ds J n' H' l, Q' ds n' → Fr c n' H H' → (∀ p ∈ l, Rp (msk (c.av A) H') p.1 p.2) → WD c l J ds → R J H'
theorem _root_.L2.PI.imp {X : Cx} {tg iter : Expr} {t t' : TI} (h : PI X tg iter t) (i : ∀ σ H R, t' σ H R → t σ H R) : PI X tg iter t' := ⟨fun pins s σ H R I q => h.run pins s σ H R I (i σ H R q)⟩
theorem EnvA.pins {c : EC} {A : Nat → Option Addr} {n : Int} {σ : L2.St} {H : Hp} {ρ : List DV} (E : EnvA c A n σ H ρ) {l : List (V × PyData)} (h : ∀ p ∈ l, Rp (msk (c.av A) H) p.1 p.2) : EnvA (c.pin l) A n σ H ρ :=
  ⟨E.keep, E.g, E.new, E.has, E.inj, E.slot, E.len, fun p hp => (List.mem_append.mp hp).elim (h p) (E.pin p), E.fin, E.mine⟩
theorem EnvA.unpin {c : EC} {A : Nat → Option Addr} {n : Int} {σ : L2.St} {H : Hp} {ρ : List DV} {l : List (V × PyData)} (E : EnvA (c.pin l) A n σ H ρ) : EnvA c A n σ H ρ :=
  ⟨E.keep, E.g, E.new, E.has, E.inj, E.slot, E.len, fun p hp => E.pin p (List.mem_append.mpr (.inr hp)), E.fin, E.mine⟩
theorem EnvA.pinned {c : EC} {A : Nat → Option Addr} {n : Int} {σ : L2.St} {H : Hp} {ρ : List DV} {l : List (V × PyData)} (E : EnvA (c.pin l) A n σ H ρ) {p : V × PyData} (h : p ∈ l) : Rp (msk (c.av A) H) p.1 p.2 := E.pin p (List.mem_append.mpr (.inl h))
/-- lists, tuples -/
def dIn (f : DF) : DI := fun ρ n Q => f ρ n fun r n1 => ∃ ds, r.dat = some (.list ds) ∧ Q ds n1
def dInT (f : DF) : DI := fun ρ n Q => f ρ n fun r n1 => ∃ ds, r.dat = some (.tuple ds) ∧ Q ds n1
theorem piList {X : Cx} {tg e : Expr} {f : DF} (h : PE X e (tD f)) : PI X tg e (iD (dIn f)) := (pi_list h).imp fun σ H R ⟨c, A, n, ρ, Q', E, hf, k⟩ => by
  refine ⟨c, A, n, ρ, _, E, hf, fun v r n1 H1 ⟨ds, e1, h1⟩ f1 o1 => ?_⟩
  have rp := o1.dat E e1
  cases rp with
  | @lst a xs _ h2 h3 =>
    refine ⟨a, rfl, ⟨xs, SqL.of (msk_some h2).2⟩, k ds _ n1 H1 [(.ref a, .list ds)] h1 f1 (fun p hp => by rw [List.mem_singleton.mp hp]; exact .lst h2 h3) fun A n σ H ρ E' => ?_⟩
    have p := E'.pinned (p := (.ref a, .list ds)) (List.mem_singleton.mpr rfl)
    cases p with
    | @lst _ ys _ g2 g3 =>
      have hl := g3.length
      have hs := SqL.of (K := X.K) (msk_some g2).2
      refine ⟨fun i d hd => ?_, walk_list.stops H hs |> fun z => by rw [← hl]; exact z⟩
      obtain ⟨y, e2, r2⟩ := g3.get hd
      exact ⟨walk_list.goes i H (List.getElem?_eq_some_iff.mp e2).1 hs, fun x H2 yl => by
        obtain ⟨rfl, e3⟩ := walk_list.yields i H x H2 (List.getElem?_eq_some_iff.mp e2).1 hs yl
        rw [e2] at e3
        cases e3
        exact ⟨fun _ _ h => h, r2⟩⟩
theorem piTup {X : Cx} {tg e : Expr} {f : DF} (h : PE X e (tD f)) : PI X tg e (iD (dInT f)) := (pi_tup h).imp fun σ H R ⟨c, A, n, ρ, Q', E, hf, k⟩ => by
  refine ⟨c, A, n, ρ, _, E, hf, fun v r n1 H1 ⟨ds, e1, h1⟩ f1 o1 => ?_⟩
  have rp := o1.dat E e1
  cases rp with
  | @tup a xs _ h2 h3 =>
    refine ⟨a, rfl, ⟨xs, SqT.of (msk_some h2).2⟩, k ds _ n1 H1 [(.ref a, .tuple ds)] h1 f1 (fun p hp => by rw [List.mem_singleton.mp hp]; exact .tup h2 h3) fun A n σ H ρ E' => ?_⟩
    have p := E'.pinned (p := (.ref a, .tuple ds)) (List.mem_singleton.mpr rfl)
    cases p with
    | @tup _ ys _ g2 g3 =>
      have hl := g3.length
      have hs := SqT.of (K := X.K) (msk_some g2).2
      refine ⟨fun i d hd => ?_, walk_tup.stops H hs |> fun z => by rw [← hl]; exact z⟩
      obtain ⟨y, e2, r2⟩ := g3.get hd
      exact ⟨walk_tup.goes i H (List.getElem?_eq_some_iff.mp e2).1 hs, fun x H2 yl => by
        obtain ⟨rfl, e3⟩ := walk_tup.yields i H x H2 (List.getElem?_eq_some_iff.mp e2).1 hs yl
        rw [e2] at e3
        cases e3
        exact ⟨fun _ _ h => h, r2⟩⟩
/-- reversed(list) -/
def dRev (f : DF) : DI := fun ρ n Q => f ρ n fun r n1 => ∃ ds, r.dat = some (.list ds) ∧ Q ds.reverse n1
theorem piRev {X : Cx} {tg e : Expr} {f : DF} (h : PI X tg e (RT.iRevA X.K (tD f))) : PI X tg e (iD (dRev f)) := h.imp fun σ H R ⟨c, A, n, ρ, Q', E, hf, k⟩ => by
  refine ⟨c, A, n, ρ, _, E, hf, fun v r n1 H1 ⟨ds, e1, h1⟩ f1 o1 => ?_⟩
  have rp := o1.dat E e1
  cases rp with
  | @lst a xs _ h2 h3 =>
    refine ⟨a, xs, rfl, .inl ⟨SqL.of (msk_some h2).2, k ds.reverse _ n1 H1 [(.ref a, .list ds)] h1 f1 (fun p hp => by rw [List.mem_singleton.mp hp]; exact .lst h2 h3) fun A n σ H ρ E' => ?_⟩⟩
    have p := E'.pinned (p := (.ref a, .list ds)) (List.mem_singleton.mpr rfl)
    have hx := h3.length
    cases p with
    | @lst _ ys _ g2 g3 =>
      have hl := g3.length
      have hs := SqL.of (K := X.K) (msk_some g2).2
      have hxy : xs.length = ys.length := by rw [hx, hl]
      rw [hxy]
      refine ⟨fun i d hd => ?_, walk_rev.stops H hs |> fun z => by rw [List.length_reverse, ← hl]; exact z⟩
      have hi : i < ds.length := by
        have := (List.getElem?_eq_some_iff.mp hd).1
        rwa [List.length_reverse] at this
      rw [List.getElem?_reverse hi] at hd
      obtain ⟨y, e2, r2⟩ := g3.get hd
      exact ⟨walk_rev.goes i H (by rw [hl]; exact hi) hs, fun x H2 yl => by
        obtain ⟨rfl, e3⟩ := walk_rev.yields i H x H2 (by rw [hl]; exact hi) hs yl
        rw [hl, e2] at e3
        cases e3
        exact ⟨fun _ _ h => h, r2⟩⟩
/-- range(n) -/
def dRng (g : DA) : DI := fun ρ n Q => g ρ n fun rs n1 => ∃ j : Int, rs = [.d (.int j)] ∧ j < 2 ^ 62 ∧ -(2 ^ 62) ≤ j ∧ Q ((List.range j.toNat).map fun i => .int (i : Nat)) n1
theorem piRng {X : Cx} {tg e : Expr} {g : DA} (h : PI X tg e (iRng1 (tDA g))) : PI X tg e (iD (dRng g)) := h.imp fun σ H R ⟨c, A, n, ρ, Q', E, hf, k⟩ => by
  refine ⟨c, A, n, ρ, _, E, hf, fun vs rs n1 H1 ⟨j, e1, h2, h3, h1⟩ f1 o1 => ?_⟩
  subst e1
  cases o1 with
  | cons h _ t =>
    cases h
    cases t
    refine ⟨j, rfl, h3, h2, k _ _ n1 H1 [] h1 f1 (fun p hp => by cases hp) fun A n σ H ρ E' => ⟨fun i d hd => ?_, by rw [List.length_map, List.length_range]; exact walk_range.stops H True.intro⟩⟩
    have hi : i < j.toNat := by
      have := (List.getElem?_eq_some_iff.mp hd).1
      rwa [List.length_map, List.length_range] at this
    rw [List.getElem?_map, List.getElem?_range hi] at hd
    cases hd
    exact ⟨walk_range.goes i H hi True.intro, fun x H2 yl => by
      obtain ⟨rfl, rfl⟩ := walk_range.yields i H x H2 hi True.intro yl
      refine ⟨fun _ _ h => h, ?_⟩
      show Rp _ (.int (0 + (i : Nat))) (.int (i : Nat))
      rw [Int.zero_add]
      exact .int _⟩
theorem new_pair {c : EC} {A : Nat → Option Addr} {n : Int} {σ : L2.St} {H : Hp} {ρ : List DV} (E : EnvA c A n σ H ρ) {T : Addr} {x y : V} {d e : PyData} (hT : H T = none) (hx : Rp (msk (c.av A) H) x d) (hy : Rp (msk (c.av A) H) y e) : Rp (msk (c.av A) (upd H T (.tup [x, y]))) (.ref T) (.tuple [d, e]) :=
  tup_new E hT (.cons hx (.cons hy .nil))
theorem same_new {H : Hp} {T : Addr} {o : HO} (hT : H T = none) : ∀ b u, H b = some u → upd H T o b = some u := fun b u h => by
  rw [upd_ne (ne_of_none h hT)]
  exact h
/-- enumerate(list), zip(list, list) -/
def enumD (ds : List PyData) : List PyData := (List.range ds.length).map fun i => .tuple [.int (i : Nat), ds.getD i .none]
def dEnum (g : DA) : DI := fun ρ n Q => g ρ n fun rs n1 => ∃ ds, datsOf rs = some [.list ds] ∧ Q (enumD ds) n1
theorem enumD_len (ds : List PyData) : (enumD ds).length = ds.length := by unfold enumD; rw [List.length_map, List.length_range]
theorem piEnum {X : Cx} {tg e : Expr} {g : DA} (h : PI X tg e (iEnum X.K (tDA g))) : PI X tg e (iD (dEnum g)) := h.imp fun σ H R ⟨c, A, n, ρ, Q', E, hf, k⟩ => by
  refine ⟨c, A, n, ρ, _, E, hf, fun vs rs n1 H1 ⟨ds, e1, h1⟩ f1 o1 => ?_⟩
  have rp := o1.dats E e1
  cases rp with
  | cons r t =>
    cases t
    cases r with
    | @lst a xs _ h2 h3 =>
      refine ⟨a, xs, rfl, SqL.of (msk_some h2).2, k _ _ n1 H1 [(.ref a, .list ds)] h1 f1 (fun p hp => by rw [List.mem_singleton.mp hp]; exact .lst h2 h3) fun A n σ H ρ E' => ?_⟩
      have p := E'.pinned (p := (.ref a, .list ds)) (List.mem_singleton.mpr rfl)
      cases p with
      | @lst _ ys _ g2 g3 =>
        have hl := g3.length
        have hs := SqL.of (K := X.K) (msk_some g2).2
        refine ⟨fun i d hd => ?_, walk_enum.stops H hs |> fun z => by rw [enumD_len, ← hl]; exact z⟩
        have hi : i < ds.length := by
          have := (List.getElem?_eq_some_iff.mp hd).1
          rwa [enumD_len] at this
        unfold enumD at hd
        rw [List.getElem?_map, List.getElem?_range hi] at hd
        cases hd
        obtain ⟨y, e2, r2⟩ := g3.get (List.getElem?_eq_getElem hi)
        have hiy : i < ys.length := by rw [hl]; exact hi
        exact ⟨walk_enum.goes i H hiy hs, fun x H2 yl => by
          obtain ⟨T, u, w, rfl, hT, rfl, hu, hw⟩ := walk_enum.yields i H x H2 hiy hs yl
          cases hu
          have hw' : ys[i]? = some w := hw
          rw [e2] at hw'
          cases hw'
          refine ⟨same_new hT, ?_⟩
          show Rp _ _ (.tuple [.int (i : Nat), ds.getD i .none])
          rw [show ds.getD i .none = ds[i] by rw [List.getD_eq_getElem?_getD, List.getElem?_eq_getElem hi]; rfl]
          exact new_pair E' hT (.int _) r2⟩
def zipD (ds es : List PyData) : List PyData := (List.zip ds es).map fun p => .tuple [p.1, p.2]
def dZip (g : DA) : DI := fun ρ n Q => g ρ n fun rs n1 => ∃ ds es, datsOf rs = some [.list ds, .list es] ∧ Q (zipD ds es) n1
theorem piZip {X : Cx} {tg e : Expr} {g : DA} (h : PI X tg e (iZip X.K (tDA g))) : PI X tg e (iD (dZip g)) := h.imp fun σ H R ⟨c, A, n, ρ, Q', E, hf, k⟩ => by
  refine ⟨c, A, n, ρ, _, E, hf, fun vs rs n1 H1 ⟨ds, es, e1, h1⟩ f1 o1 => ?_⟩
  have rp := o1.dats E e1
  cases rp with
  | cons r t =>
    cases t with
    | cons q t =>
      cases t
      cases r with
      | @lst a xs _ h2 h3 =>
        cases q with
        | @lst b zs _ h4 h5 =>
          refine ⟨a, b, xs, zs, rfl, SqL.of (msk_some h2).2, SqL.of (msk_some h4).2, k _ _ n1 H1 [(.ref a, .list ds), (.ref b, .list es)] h1 f1 (fun p hp => by
            rcases List.mem_cons.mp hp with e | e
            · rw [e]; exact .lst h2 h3
            · rw [List.mem_singleton.mp e]; exact .lst h4 h5) fun A n σ H ρ E' => ?_⟩
          have p := E'.pinned (p := (.ref a, .list ds)) List.mem_cons_self
          have p' := E'.pinned (p := (.ref b, .list es)) (List.mem_cons_of_mem _ List.mem_cons_self)
          cases p with
          | @lst _ ys _ g2 g3 =>
            cases p' with
            | @lst _ ws _ g4 g5 =>
              have hl := g3.length
              have hl' := g5.length
              have hs : SqL X.K H a ys ∧ SqL X.K H b ws := ⟨SqL.of (K := X.K) (msk_some g2).2, SqL.of (K := X.K) (msk_some g4).2⟩
              have zl : (zipD ds es).length = min ys.length ws.length := by
                unfold zipD
                rw [List.length_map, List.length_zip, hl, hl']
              have wz := walk_zip (K := X.K) (a := a) (b := b) zl
              refine ⟨fun i d hd => ?_, wz.stops H hs⟩
              have hi : i < (zipD ds es).length := (List.getElem?_eq_some_iff.mp hd).1
              have h1 : i < ds.length := by rw [zl] at hi; omega
              have h2 : i < es.length := by rw [zl] at hi; omega
              have ed : d = .tuple [ds[i], es[i]] := by
                unfold zipD at hd
                rw [List.getElem?_map, List.getElem?_eq_getElem (by rw [List.length_zip]; omega), List.getElem_zip] at hd
                exact (Option.some.inj hd).symm
              obtain ⟨y, e2, r2⟩ := g3.get (List.getElem?_eq_getElem h1)
              obtain ⟨y', e2', r2'⟩ := g5.get (List.getElem?_eq_getElem h2)
              exact ⟨wz.goes i H hi hs, fun x H2 yl => by
                obtain ⟨T, u, w, rfl, hT, rfl, hu, hw⟩ := wz.yields i H x H2 hi hs yl
                have hu' : ys[i]? = some u := hu
                have hw' : ws[i]? = some w := hw
                rw [e2] at hu'
                rw [e2'] at hw'
                cases hu'
                cases hw'
                refine ⟨same_new hT, ?_⟩
                rw [ed]
                exact new_pair E' hT r2 r2'⟩
/-- for -/
def dFor (f : DI) (g : DG) (F : DS) : DS := fun E ρ n => f ρ n fun ds n1 => ∃ W : Nat → List DV → Int → Prop, W 0 ρ n1 ∧ (∀ i d ρ n, ds[i]? = some d → W i ρ n → ∃ ρ', g d ρ = some ρ' ∧ F { E with nx := W (i + 1), ct := W (i + 1), bk := E.nx } ρ' n) ∧ ∀ ρ n, W ds.length ρ n → E.nx ρ n
theorem psFor {X : Cx} {tg iter : Expr} {body : List Stmt} {f : DI} {sl : List Nat} {g : DG} {F : DS} {pos : Pos} (hp : PassesOwn (model X.prog X.w) X.A X.env X.xe) (hc : X.calm = true) (hi : PI X tg iter (iD f)) (hg : PG X tg (gD sl g)) (hb : PSs X body (sD F))
    (hs : ∀ x, foldedSetIterable iter X.env x = pure x := by intro _; rfl) : PS X (.For tg iter body [] pos) (sD (dFor f g F)) := (ps_for hp hc hi hg hb hs).imp fun D σ H ⟨c, A, n, ρ, E, e, hf, L⟩ => by
  refine ⟨c, A, n, ρ, _, e, hf, fun ds J n1 H1 l ⟨W, w0, ws, wd⟩ f1 pins wD => ?_⟩
  refine ⟨fun i m σ H => m = ds.length - i ∧ i ≤ ds.length ∧ ∃ A n ρ, EnvA (c.pin l) A n σ H ρ ∧ W i ρ n, ⟨ds.length, by simp, Nat.zero_le _, A, n1, ρ, (e.fr f1).pins pins, w0⟩, ?_⟩
  rintro i m σ H ⟨rfl, hi, A, n, ρ, e', w⟩
  have q := wD A n σ H ρ e'
  by_cases hlt : i < ds.length
  · obtain ⟨go, yl⟩ := q.1 i ds[i] (List.getElem?_eq_getElem hlt)
    refine .inr ⟨go, fun σ H => ∃ A n ρ, EnvA (c.pin l) A n σ H ρ ∧ W (i + 1) ρ n, fun σ' H' w' => ⟨ds.length - (i + 1), by omega, rfl, hlt, w'⟩, fun x H2 y => ?_⟩
    obtain ⟨s, r⟩ := yl x H2 y
    obtain ⟨ρ', e1, h1⟩ := ws i ds[i] ρ n (List.getElem?_eq_getElem hlt) w
    have e2 : EnvA (c.pin l) A n σ H2 ρ := e'.fr (Fr.same e'.g s)
    refine ⟨c.pin l, A, n, ρ, ρ', ds[i], e2, r, e1, fun A' σ' e3 _ _ => ⟨c.pin l, A', n, ρ', _, e3, h1, ⟨?_, ?_, ?_, ?_⟩⟩⟩
    · exact fun A n σ H ρ h e4 => ⟨A, n, ρ, e4, h⟩
    · exact fun v r n H' h fr o => L.rt v r n H' h fr o
    · exact fun A n σ H ρ h e4 => L.nx A n σ H ρ h e4.unpin
    · exact fun A n σ H ρ h e4 => ⟨A, n, ρ, e4, h⟩
  · have z : i = ds.length := by omega
    subst z
    exact .inl ⟨q.2, L.nx A n σ H ρ (wd ρ n w) e'.unpin⟩
/-- while -/
def dWhile (t : DT) (F : DS) : DS := fun E ρ n => ∃ W : Nat → List DV → Int → Prop, (∃ m, W m ρ n) ∧ ∀ m ρ n, W m ρ n → t ρ n fun b n1 => if b = true then ∃ N : List DV → Int → Prop, (∀ ρ n, N ρ n → ∃ m', m' < m ∧ W m' ρ n) ∧ F { E with nx := N, ct := N, bk := E.nx } ρ n1 else E.nx ρ n1
theorem psWhile {X : Cx} {c : Expr} {body : List Stmt} {t : DT} {F : DS} {pos : Pos} (hp : PassesOwn (model X.prog X.w) X.A X.env X.xe) (hc : PT X c (tDT t)) (hb : PSs X body (sD F)) : PS X (.While c body [] pos) (sD (dWhile t F)) := (ps_while hp hc hb).imp fun D σ H ⟨c, A, n, ρ, E, e, ⟨W, ⟨m0, w0⟩, turn⟩, L⟩ => by
  refine ⟨fun m σ H => ∃ A n ρ, EnvA c A n σ H ρ ∧ W m ρ n, ⟨m0, A, n, ρ, e, w0⟩, ?_⟩
  rintro m σ H ⟨A, n, ρ, e, w⟩
  refine ⟨c, A, n, ρ, _, e, turn m ρ n w, fun b n1 H1 h f1 => ?_⟩
  cases b with
  | false => exact L.nx A n1 σ H1 ρ h (e.fr f1)
  | true =>
    obtain ⟨N, hN, hF⟩ := h
    refine ⟨fun σ H => ∃ A n ρ, EnvA c A n σ H ρ ∧ N ρ n, fun σ' H' ⟨A, n, ρ, e', w'⟩ => ?_, c, A, n1, ρ, _, e.fr f1, hF, ⟨?_, L.rt, ?_, ?_⟩⟩
    · obtain ⟨m', l, w2⟩ := hN ρ n w'
      exact ⟨m', l, A, n, ρ, e', w2⟩
    · exact fun A n σ H ρ h e4 => ⟨A, n, ρ, e4, h⟩
    · exact fun A n σ H ρ h e4 => L.nx A n σ H ρ h e4
    · exact fun A n σ H ρ h e4 => ⟨A, n, ρ, e4, h⟩

/-- comprehensions: the new list is kept apart -/
theorem EnvA.side {c : EC} {A : Nat → Option Addr} {n : Int} {σ : L2.St} {H : Hp} {ρ : List DV} (E : EnvA c A n σ H ρ) {D : Addr} {xs : List V} (hD : H D = none) (M : Nat) : ∃ k A', ρ.length ≤ k ∧ M ≤ k ∧ A' k = some D ∧ (∀ j, j ≠ k → A' j = A j) ∧ A k = none ∧ EnvA c A' n σ (upd H D (.lst xs)) ρ := by
  obtain ⟨N, hN⟩ := E.fin
  obtain ⟨Z, kN, kR, kM⟩ : ∃ Z, N ≤ Z ∧ ρ.length ≤ Z ∧ M ≤ Z := ⟨N + ρ.length + M, by omega, by omega, by omega⟩
  have same : ∀ j, j ≠ Z → (fun j => if j = Z then some D else A j) j = A j := fun j z => by show (if j = Z then some D else A j) = _; rw [if_neg z]
  have mine : (fun j => if j = Z then some D else A j) (Z) = some D := by show (if Z = Z then some D else A _) = _; rw [if_pos rfl]
  refine ⟨Z, fun j => if j = Z then some D else A j, kR, kM, mine, same, hN _ kN, ?_⟩
  have s := same_new (o := .lst xs) hD
  have xt : Xt (msk (c.av A) H) (msk (c.av fun j => if j = Z then some D else A j) (upd H D (.lst xs))) := fun b o q e => by
    obtain ⟨h1, h2⟩ := msk_some e
    rw [msk_out]
    · exact s b o h2
    · rintro (z | ⟨j, z⟩)
      · exact h1 (.inl z)
      · have z' : (if j = Z then some D else A j) = some b := z
        split at z'
        · cases z'
          rw [hD] at h2
          cases h2
        · exact h1 (.inr ⟨j, z'⟩)
  refine ⟨fun b o p q e => s b o (E.keep b o p q e), c.Gm n H _ E.g (fun b o _ _ h => s b o h) fun b o _ h => s b o h, fun j a e => ?_, fun j a e => ?_, fun i j a e1 e2 => ?_, fun i x e => ?_, E.len, fun p hp => (E.pin p hp).ex xt, ⟨Z + 1, fun k hk => ?_⟩, fun j a x e1 e2 => ?_⟩
  · have e' : (if j = Z then some D else A j) = some a := e
    split at e'
    · cases e'
      exact (Fresh.of hD).fr E.fr0
    · exact E.new j a e'
  · have e' : (if j = Z then some D else A j) = some a := e
    split at e'
    · cases e'
      exact ⟨_, upd_same, fun ps z => by cases z⟩
    · obtain ⟨o, h1, h2⟩ := E.has j a e'
      exact ⟨o, s a o h1, h2⟩
  · have e1' : (if i = Z then some D else A i) = some a := e1
    have e2' : (if j = Z then some D else A j) = some a := e2
    split at e1' <;> split at e2'
    · rename_i z1 z2
      rw [z1, z2]
    · cases e1'
      obtain ⟨o, h1, _⟩ := E.has j D e2'
      rw [hD] at h1
      cases h1
    · cases e2'
      obtain ⟨o, h1, _⟩ := E.has i D e1'
      rw [hD] at h1
      cases h1
    · exact E.inj i j a e1' e2'
  · have ni : i ≠ Z := by
      have := (List.getElem?_eq_some_iff.mp e).1
      omega
    show SlOk _ _ _ (if i = Z then some D else A i) _ _
    rw [if_neg ni]
    exact (E.slot i x e).ex xt fun a o _ _ h => s a o h
  · show (if k = Z then some D else A k) = none
    rw [if_neg (by omega)]
    exact hN k (by omega)
  · have nj : j ≠ Z := by
      have := (List.getElem?_eq_some_iff.mp e2).1
      omega
    have e1' : (if j = Z then some D else A j) = some a := e1
    rw [if_neg nj] at e1'
    exact E.mine j a x e1' e2
/-- the side list is no longer kept apart -/
theorem EnvA.unside {c : EC} {A A' : Nat → Option Addr} {n : Int} {σ : L2.St} {H : Hp} {ρ : List DV} {k : Nat} (E : EnvA c A' n σ H ρ) (hk : ρ.length ≤ k) (same : ∀ j, j ≠ k → A' j = A j) (hA : A k = none) : EnvA c A n σ H ρ := by
  have sub : ∀ {j : Nat} {a : Addr}, A j = some a → A' j = some a := fun {j a} e => by
    rw [same j (fun z => by rw [z, hA] at e; cases e)]
    exact e
  have xt : Xt (msk (c.av A') H) (msk (c.av A) H) := fun b o _ e => by
    obtain ⟨h1, h2⟩ := msk_some e
    rw [msk_out]
    · exact h2
    · rintro (z | ⟨j, z⟩)
      · exact h1 (.inl z)
      · exact h1 (.inr ⟨j, sub z⟩)
  refine ⟨E.keep, E.g, fun j a e => E.new j a (sub e), fun j a e => E.has j a (sub e), fun i j a e1 e2 => E.inj i j a (sub e1) (sub e2), fun i x e => ?_, E.len, fun p hp => (E.pin p hp).ex xt, ?_, fun j a x e1 e2 => E.mine j a x (sub e1) e2⟩
  · have ni : i ≠ k := by
      have := (List.getElem?_eq_some_iff.mp e).1
      omega
    rw [← same i ni]
    exact (E.slot i x e).ex xt fun _ _ _ _ h => h
  · obtain ⟨N, hN⟩ := E.fin
    refine ⟨max N (k + 1), fun j hj => ?_⟩
    have h1 := Nat.le_trans (Nat.le_max_left _ _) hj
    have h2 := Nat.le_trans (Nat.le_max_right N (k + 1)) hj
    rw [← same j (by omega)]
    exact hN j h1
def wipeD (ρ : List DV) : List Nat → List DV
  | [] => ρ
  | v :: vs => (wipeD ρ vs).set v .un
theorem wipeD_length (ρ : List DV) : ∀ vs : List Nat, (wipeD ρ vs).length = ρ.length
  | [] => rfl
  | v :: vs => by
    show ((wipeD ρ vs).set v .un).length = _
    rw [List.length_set]
    exact wipeD_length ρ vs
theorem EnvA.wipe {c : EC} {A : Nat → Option Addr} {n : Int} {σ : L2.St} {H : Hp} {ρ : List DV} (E : EnvA c A n σ H ρ) : ∀ vs : List Nat, (∀ j ∈ vs, A j = none) → EnvA c A n (L2.wipe σ vs) H (wipeD ρ vs)
  | [], _ => E
  | v :: vs, hv0 => by
    have E' := EnvA.wipe E vs fun j hj => hv0 j (List.mem_cons_of_mem _ hj)
    refine ⟨E'.keep, E'.g, E'.new, E'.has, E'.inj, fun i x e => ?_, ?_, E'.pin, E'.fin, fun j a x e1 e2 => ?_⟩
    · have e' : ((wipeD ρ vs).set v .un)[i]? = some x := e
      show SlOk _ _ _ _ (((L2.wipe σ vs).set v none)[i]?) x
      by_cases z : v = i
      · subst z
        have hv : v < (wipeD ρ vs).length := by
          have := (List.getElem?_eq_some_iff.mp e').1
          rwa [List.length_set] at this
        rw [List.getElem?_set_self hv] at e'
        cases e'
        exact True.intro
      · rw [List.getElem?_set_ne z] at e' ⊢
        exact E'.slot i x e'
    · show ((wipeD ρ vs).set v .un).length = ((L2.wipe σ vs).set v none).length
      rw [List.length_set, List.length_set]
      exact E'.len
    · have e' : ((wipeD ρ vs).set v .un)[j]? = some x := e2
      by_cases z : v = j
      · subst z
        rw [hv0 v List.mem_cons_self] at e1
        cases e1
      · rw [List.getElem?_set_ne z] at e'
        exact E'.mine j a x e1 e'
theorem wipe_eq {σ σ' : L2.St} {vs : List Nat} (hl : σ'.length = (wipe σ vs).length) (h : ∀ j, j ∉ vs → σ'[j]? = (wipe σ vs)[j]?) : wipe σ' vs = wipe σ vs := by
  apply List.ext_getElem?
  intro j
  by_cases hj : j ∈ vs
  · have none_at : ∀ (τ : L2.St) (vs : List Nat), j ∈ vs → j < τ.length → (wipe τ vs)[j]? = some none := by
      intro τ vs
      induction vs with
      | nil => intro h; cases h
      | cons v vs ih =>
        intro hm hl
        show ((wipe τ vs).set v none)[j]? = some none
        by_cases z : v = j
        · subst z
          exact List.getElem?_set_self (by rw [wipe_length]; exact hl)
        · rw [List.getElem?_set_ne z]
          rcases List.mem_cons.mp hm with e | e
          · exact (z e.symm).elim
          · exact ih e hl
    rw [wipe_length] at hl
    by_cases q : j < σ.length
    · rw [none_at σ' vs hj (by rw [hl]; exact q), none_at σ vs hj q]
    · rw [List.getElem?_eq_none (by rw [wipe_length, hl]; omega), List.getElem?_eq_none (by rw [wipe_length]; omega)]
  · rw [wipe_out hj]
    exact h j hj
def dYes : DT := fun _ n Q => Q true n
abbrev LcOk (g : DG) (t : DT) (h : DF) (vs : List Nat) (ρ : List DV) (Q : DQ) (ds : List PyData) (n1 : Int) : Prop := (vs.all fun j => match ρ[j]? with | some x => !x.isOwn | none => false) = true ∧ ds.length ≤ 100000 ∧ ∃ W : Nat → List PyData → Int → Prop, W 0 [] n1 ∧
  (∀ i d acc n, ds[i]? = some d → W i acc n → ∃ ρ', g d (wipeD ρ vs) = some ρ' ∧ t ρ' n fun b n2 => if b = true then h ρ' n2 fun r n3 => ∃ y, r.dat = some y ∧ W (i + 1) (acc ++ [y]) n3 else W (i + 1) acc n2) ∧ ∀ acc n, W ds.length acc n → Q (.own acc) n
def dLc (f : DI) (g : DG) (t : DT) (h : DF) (vs : List Nat) : DF := fun ρ n Q => f ρ n fun ds n1 => LcOk g t h vs ρ Q ds n1
/-- [h x for x in xs] -/
theorem lcMap {g : DG} {h : DF} {vs : List Nat} {ρ : List DV} {n : Int} {Q : DQ} {ds : List PyData} (out : List PyData) (own : (vs.all fun j => match ρ[j]? with | some x => !x.isOwn | none => false) = true) (big : ds.length ≤ 100000) (hl : out.length = ds.length)
    (step : ∀ (i : Nat) (d y : PyData), ds[i]? = some d → out[i]? = some y → ∃ ρ', g d (wipeD ρ vs) = some ρ' ∧ ∀ R : DQ, (∀ r, r.dat = some y → R r n) → h ρ' n R) (q : Q (.own out) n) : LcOk g (fun _ n Q => Q true n) h vs ρ Q ds n := by
  refine ⟨own, big, fun i acc m => m = n ∧ acc = out.take i, ⟨rfl, rfl⟩, ?_, ?_⟩
  · rintro i d acc m hd ⟨rfl, rfl⟩
    have hi : i < out.length := by rw [hl]; exact (List.getElem?_eq_some_iff.mp hd).1
    obtain ⟨y, ey⟩ : ∃ y, out[i]? = some y := ⟨_, List.getElem?_eq_getElem hi⟩
    obtain ⟨ρ', e1, h1⟩ := step i d y hd ey
    refine ⟨ρ', e1, ?_⟩
    show (if true = true then _ else _)
    rw [if_pos rfl]
    exact h1 _ fun r er => ⟨y, er, rfl, by rw [List.take_succ, ey]; rfl⟩
  · rintro acc m ⟨rfl, rfl⟩
    rw [← hl, List.take_length]
    exact q
/-- [x for x in xs if p x] -/
theorem lcFil {g : DG} {t : DT} {h : DF} {vs : List Nat} {ρ : List DV} {n : Int} {Q : DQ} {ds : List PyData} (p : PyData → Bool) (own : (vs.all fun j => match ρ[j]? with | some x => !x.isOwn | none => false) = true) (big : ds.length ≤ 100000)
    (step : ∀ d, d ∈ ds → ∃ ρ', g d (wipeD ρ vs) = some ρ' ∧ (∀ R : Bool → Int → Prop, R (p d) n → t ρ' n R) ∧ ∀ R : DQ, R (.d d) n → h ρ' n R) (q : Q (.own (ds.filter p)) n) : LcOk g t h vs ρ Q ds n := by
  refine ⟨own, big, fun i acc m => m = n ∧ acc = (ds.take i).filter p, ⟨rfl, rfl⟩, ?_, ?_⟩
  · rintro i d acc m hd ⟨rfl, rfl⟩
    obtain ⟨ρ', e1, h1, h2⟩ := step d (List.mem_of_getElem? hd)
    refine ⟨ρ', e1, h1 _ ?_⟩
    have et : (ds.take (i + 1)).filter p = (ds.take i).filter p ++ if p d = true then [d] else [] := by
      rw [List.take_succ, hd, List.filter_append]
      congr 1
      cases e : p d with
      | true => simp [e]
      | false => simp [e]
    cases e : p d with
    | true =>
      rw [if_pos rfl]
      refine h2 _ ⟨d, rfl, rfl, ?_⟩
      rw [et, e, if_pos rfl]
    | false =>
      rw [if_neg Bool.false_ne_true]
      refine ⟨rfl, ?_⟩
      rw [et, e, if_neg Bool.false_ne_true, List.append_nil]
  · rintro acc m ⟨rfl, rfl⟩
    rw [List.take_length] at *
    exact q
theorem bound_of (vs : List Nat) : ∃ M, ∀ j ∈ vs, j < M := by
  induction vs with
  | nil => exact ⟨0, fun j h => by cases h⟩
  | cons v vs ih =>
    obtain ⟨M, h⟩ := ih
    refine ⟨M + v + 1, fun j hj => ?_⟩
    rcases List.mem_cons.mp hj with e | e
    · omega
    · have := h j e
      omega
theorem lc_le {f : DI} {g : DG} {sl vs : List Nat} {t : DT} {tt : TT} {h : DF} (hsl : ∀ j ∈ sl, j ∈ vs) (ht : ∀ σ H Q, tDT t σ H Q → tt σ H Q) (σ : L2.St) (H : Hp) (Q : VK) (q : tD (dLc f g t h vs) σ H Q) : tLc (iD f) (gD sl g) tt (tD h) vs σ H Q := by
  obtain ⟨c, A, n, ρ, Q', E, hf, k⟩ := q
  refine ⟨c, A, n, ρ, _, E, hf, fun ds J n1 H1 l ⟨nown, big, W, w0, ws, wd⟩ f1 pins wD D hD => ?_⟩
  have E1 := E.fr f1
  obtain ⟨M, hM⟩ := bound_of vs
  obtain ⟨kD, A1, hk, hkM, hA1, sameA, hAk, ES⟩ := E1.side (xs := []) hD M
  have vA1 : ∀ j ∈ vs, A1 j = none := fun j hj => by
    have hb := List.all_eq_true.mp nown j hj
    have nk : j ≠ kD := by
      have := hM j hj
      omega
    cases e : A1 j with
    | none => rfl
    | some a =>
      cases er : ρ[j]? with
      | none =>
        rw [er] at hb
        cases hb
      | some x =>
        have := ES.mine j a x e er
        rw [er] at hb
        have hb' : (!x.isOwn) = true := hb
        rw [this] at hb'
        cases hb'
  have Ep : EnvA (c.pin l) A1 n1 σ (upd H1 D (.lst [])) ρ := ES.pins fun p hp => (pins p hp).ex fun b o q e => by
    obtain ⟨h1, h2⟩ := msk_some e
    have nb : b ≠ D := fun z => by rw [z, hD] at h2; cases h2
    rw [msk_out]
    · rw [upd_ne nb]; exact h2
    · rintro (z | ⟨j, z⟩)
      · exact h1 (.inl z)
      · by_cases e : j = kD
        · rw [e, hA1] at z
          exact nb (Option.some.inj z).symm
        · rw [sameA j e] at z
          exact h1 (.inr ⟨j, z⟩)
  refine ⟨fun i m H2 => m = ds.length - i ∧ i ≤ ds.length ∧ ∃ n vals acc, EnvA (c.pin l) A1 n σ H2 ρ ∧ H2 D = some (.lst vals) ∧ RpA (msk (c.av A1) H2) vals acc ∧ acc.length ≤ i ∧ W i acc n ∧ (∀ b o, ¬ c.P b → (∀ ps, o ≠ HO.tbl ps) → H1 b = some o → H2 b = some o), ⟨ds.length, by simp, Nat.zero_le _, n1, [], [], Ep, upd_same, .nil, Nat.le_refl _, w0, fun b o _ _ e => by rw [upd_ne (ne_of_none e hD)]; exact e⟩, ?_⟩
  rintro i m H2 ⟨rfl, hi, n2, vals, acc, e2, hv, rv, la, w, kp⟩
  have qD := wD A1 n2 σ H2 ρ e2
  have nD : ¬ c.P D := fun p => (e2.nP hA1) (c.PB D p)
  have avD : c.av A1 D := .inr ⟨kD, hA1⟩
  by_cases hlt : i < ds.length
  · obtain ⟨go, yl⟩ := qD.1 i ds[i] (List.getElem?_eq_getElem hlt)
    refine .inr ⟨go, fun H2 => ∃ n vals acc, EnvA (c.pin l) A1 n σ H2 ρ ∧ H2 D = some (.lst vals) ∧ RpA (msk (c.av A1) H2) vals acc ∧ acc.length ≤ i + 1 ∧ W (i + 1) acc n ∧ (∀ b o, ¬ c.P b → (∀ ps, o ≠ HO.tbl ps) → H1 b = some o → H2 b = some o), fun H' w' => ⟨ds.length - (i + 1), by omega, rfl, hlt, w'⟩, fun x H3 y => ?_⟩
    obtain ⟨s3, r3⟩ := yl x H3 y
    obtain ⟨ρ', eg, et⟩ := ws i ds[i] acc n2 (List.getElem?_eq_getElem hlt) w
    have f3 : Fr (c.pin l) n2 H2 H3 := Fr.same e2.g s3
    have e3 : EnvA (c.pin l) A1 n2 (L2.wipe σ vs) H3 (wipeD ρ vs) := (e2.fr f3).wipe vs vA1
    refine ⟨c.pin l, A1, n2, _, ρ', ds[i], e3, r3, eg, fun A' σ' e4 l4 o4 => ⟨wipe_eq l4 fun j hj => (o4 j fun z => hj (hsl j z)).1, ?_⟩⟩
    have back : ∀ {n5 : Int} {H5 : Hp}, Fr (c.pin l) n5 H3 H5 → EnvA (c.pin l) A1 n5 σ H5 ρ ∧ H5 D = some (.lst vals) ∧ RpA (msk (c.av A1) H5) vals acc ∧ (∀ b o, ¬ c.P b → (∀ ps, o ≠ HO.tbl ps) → H1 b = some o → H5 b = some o) := fun {n5 H5} f5 => by
      have f25 := f3.trans f5
      exact ⟨e2.fr f25, f25.1 D _ nD (fun ps z => by cases z) hv, rv.ex f25.msk, fun b o p q e => f25.1 b o p q (kp b o p q e)⟩
    refine ht σ' H3 _ ⟨c.pin l, A', n2, ρ', _, e4, et, fun b n4 H4 hb f4 => ?_⟩
    cases b with
    | false =>
      obtain ⟨b1, b2, b3, b4⟩ := back f4
      exact ⟨n4, vals, acc, b1, b2, b3, Nat.le_succ_of_le la, hb, b4⟩
    | true =>
      refine ⟨c.pin l, A', n4, ρ', _, e4.fr f4, hb, fun v r n5 H5 ⟨y, ey, hw⟩ f5 o5 => ?_⟩
      obtain ⟨b1, b2, b3, b4⟩ := back (f4.trans f5)
      have ry := o5.dat (e4.fr f4) ey
      have ll : vals.length < sizeLine := big_lt (by rw [rv.length]; omega)
      refine ⟨vals, b2, ll, ?_⟩
      have ry1 : Rp (msk (c.av A1) H5) v y := ry.ex fun b o _ e => by
        obtain ⟨h1, h2⟩ := msk_some e
        rw [msk_out]
        · exact h2
        · rintro (z | ⟨j, z⟩)
          · exact h1 (.inl z)
          · by_cases hj : j ∈ sl
            · rw [vA1 j (hsl j hj)] at z
              cases z
            · exact h1 (.inr ⟨j, by rw [(o4 j hj).2]; exact z⟩)
      have mk : msk (c.av A1) (upd H5 D (.lst (vals ++ [v]))) = msk (c.av A1) H5 := by
        funext b
        by_cases z : c.av A1 b
        · unfold msk
          rw [if_pos z, if_pos z]
        · rw [msk_out z, msk_out z, upd_ne (fun e => z (by rw [e]; exact avD))]
      have m1 := b1.mut (r := .un) (u := .lst (vals ++ [v])) hA1 b2 (.inl ⟨_, rfl⟩) (fun ps z => by cases z) True.intro (fun z => by omega)
      rw [List.set_eq_of_length_le hk] at m1
      refine ⟨n5, vals ++ [v], acc ++ [y], m1, upd_same, by rw [mk]; exact b3.app (.one ry1), by rw [List.length_append]; show acc.length + 1 ≤ _; omega, hw, fun b o p q e => ?_⟩
      rw [upd_ne (fun z => by rw [z, hD] at e; cases e)]
      exact b4 b o p q e
  · have z : i = ds.length := by omega
    subst z
    refine .inl ⟨qD.2, ?_⟩
    have fE : Fr c n2 H1 H2 := ⟨kp, e2.g⟩
    refine k _ _ n2 H2 (wd acc n2 w) (f1.trans fE) ⟨D, vals, rfl, (Fresh.of hD).fr f1, hv, rv.ex fun b o _ e => ?_⟩
    obtain ⟨h1, h2⟩ := msk_some e
    rw [msk_out]
    · exact h2
    · rintro ((z | ⟨j, z⟩) | z)
      · exact h1 (.inl z)
      · by_cases e : j = kD
        · rw [e, hAk] at z
          cases z
        · exact h1 (.inr ⟨j, by rw [sameA j e]; exact z⟩)
      · exact h1 (by rw [z]; exact avD)
end

/-! ### data readings: defs, operators, built-ins -/
section
variable [Fam] [Tabz]
theorem VsOk.get {t : V} {B : Addr → Prop} {H H' : Hp} : ∀ {vs : List V} {rs : List DV} {i : Nat} {r : DV}, VsOk t B H H' vs rs → rs[i]? = some r → ∃ v, vs[i]? = some v ∧ VOk t B H v H' r ∧ r.cold = r
  | _, _, _, _, .nil, e => by simp at e
  | _, _, 0, _, .cons h ec _, e => by
    simp at e
    subst e
    exact ⟨_, rfl, h, ec⟩
  | _, _, i + 1, r, .cons _ _ t, e => by
    obtain ⟨v, h1, h2⟩ := VsOk.get (i := i) (r := r) t (by simpa using e)
    exact ⟨v, by simpa using h1, h2⟩
theorem VsOk.length {t : V} {B : Addr → Prop} {H H' : Hp} : ∀ {vs : List V} {rs : List DV}, VsOk t B H H' vs rs → vs.length = rs.length
  | _, _, .nil => rfl
  | _, _, .cons _ _ t => by
    show _ + 1 = _ + 1
    rw [VsOk.length t]
section
variable {P : Program} {w : World} {K : PySem.W.Frag} {mg : Str → Option Value} {base : Heap}
theorem okD {x qual : Str} {st : Stmt} {f : Addr} {fd : FuncData} {N ps : List Str} {k : Nat} {F : DS} {m : DM} (Fn : Fun K x qual st f fd) (S : FnScope N ps (defScope st)) (len : ∀ rs n Q, m rs n Q → plainR rs ∧ rs.length = ps.length)
    (body : ∀ (cdv : Value) (A : Around) (outer : List Env) (s : Shared) (H : Hp) (E : XK), Room k (A.deeper (PyProof.Rows.envOfC qual (defScope st) s.heap.objs.size f cdv)) → PSs (cxOf CX0 P w K mg base N qual (defScope st) f cdv A outer s H E).nox (defBody st) (sD F))
    (data : ∀ rs n Q, m rs n Q → F { nx := fun _ n => Q (.d .none) n, rt := Q } (rs ++ List.replicate (N.length - rs.length) .un) n) : FnOk P w K mg base CX0 (k + 1) f fd ps (spD m) := by
  refine Fn.ok S (fun vs H Q E ⟨c, n, rs, Q', h0, g, pn, ok, hm, _⟩ => ?_) (fun cdv A outer s H vs Q E hr ⟨c, n, rs, Q', h0, g, pn, ok, hm, kk⟩ => ⟨_, body cdv A outer s H E hr, c, fun _ => none, n, _, { nx := fun _ n => Q' (.d .none) n, rt := Q' }, ?_, data rs n Q' hm, ?_⟩)
  · rw [ok.length]
    exact (len _ _ _ hm).2
  · subst h0
    have av : ∀ {b : Addr}, c.av (fun _ => none) b → c.B b := fun {b} z => z.elim id fun ⟨i, e⟩ => by cases e
    have xt : Xt (msk c.B c.H0) (msk (c.av fun _ => none) c.H0) := fun b o _ e => by
      obtain ⟨h1, h2⟩ := msk_some e
      rw [msk_out fun z => h1 (av z)]
      exact h2
    refine ⟨fun b o _ _ e => e, g, fun i a e => (by cases e), fun i a e => (by cases e), fun i j a e => (by cases e), fun i y e => ?_, ?_, fun p hp => (by rw [pn] at hp; cases hp), ⟨0, fun _ _ => rfl⟩, fun i a y e => (by cases e)⟩
    · by_cases hi : i < rs.length
      · rw [List.getElem?_append_left hi] at e
        obtain ⟨v, h1, h2, h3⟩ := ok.get e
        have hs : (L2.start N vs)[i]? = some (some v) := by
          unfold L2.start
          rw [List.getElem?_append_left (by rw [List.length_map, ok.length]; exact hi), List.getElem?_map, h1]
          rfl
        rw [hs]
        cases y with
        | un => exact h2.elim
        | raw v => exact h2.elim
        | tape => 
          refine ⟨?_, h2.2⟩
          rw [show v = c.t from h2.1]
        | d z => exact ⟨v, rfl, Rp.ex h2 xt⟩
        | own ds => cases h3
        | dic kvs => 
          rcases (len _ _ _ hm).1 _ (List.mem_of_getElem? e) with ⟨d, q⟩ | q <;> cases q
      · rw [List.getElem?_append_right (by omega), List.getElem?_replicate] at e
        split at e
        · cases e
          exact True.intro
        · cases e
    · unfold L2.start
      rw [List.length_append, List.length_append, List.length_map, List.length_replicate, List.length_replicate, ok.length]
  · subst h0
    refine ⟨fun A n σ H' ρ h e => ?_, fun v r n H' h fr o => kk v r n H' h fr o, fun A n σ H ρ h e => h.elim, fun A n σ H ρ h e => h.elim⟩
    exact kk .non _ n H' h e.fr0 Rp.non
end
theorem yes_le (σ : L2.St) (H : Hp) (Q : Bool → Hp → Prop) (q : tDT dYes σ H Q) : tYes σ H Q := by
  obtain ⟨c, A, n, ρ, Q', E, hf, k⟩ := q
  exact k true n H hf (.refl E.g)
theorem set_le2 {i : Nat} {f : DF} {te : TE} (h : ∀ σ H Q, tD f σ H Q → te σ H Q) (D : Ends) (σ : L2.St) (H : Hp) (q : sD (dSet i f) D σ H) : tAsg te (gName i) D σ H := by
  obtain ⟨c, A, n, ρ, E, e, hf, L⟩ := q
  refine h _ _ _ ⟨c, A, n, ρ, _, e, hf, fun v r n1 H1 ⟨hi, h1⟩ f1 o1 => ?_⟩
  obtain ⟨A', e'⟩ := e.put f1 o1 hi
  exact L.nx _ _ _ _ _ h1 e'
/-- ints -/
def opI (g : Int → Int → PyData) : PyData → PyData → Option DV
  | .int a, .int b => some (.d (g a b))
  | _, _ => none
theorem r2I {g : Int → Int → V} {g' : Int → Int → PyData} (h : ∀ i j, datC (g i j) = some (g' i j)) : R2D (rI0 g) (opI g') := by
  intro t B H v w a b z Q _ ra rb e k
  cases ra <;> cases rb <;> cases e
  exact ⟨_, _, rfl, rfl, k _ H (fun _ _ h => h) (datC_rp (h _ _))⟩
def opIc (C : Int → Int → Bool) (g : Int → Int → PyData) : PyData → PyData → Option DV
  | .int a, .int b => if C a b = true then some (.d (g a b)) else none
  | _, _ => none
theorem r2Ic {C : Int → Int → Prop} {Cb : Int → Int → Bool} (hC : ∀ i j, Cb i j = true → C i j) {g : Int → Int → V} {g' : Int → Int → PyData} (h : ∀ i j, datC (g i j) = some (g' i j)) : R2D (rI C g) (opIc Cb g') := by
  intro t B H v w a b z Q _ ra rb e k
  cases ra <;> cases rb <;> simp only [opIc, reduceCtorEq] at e
  split at e
  · cases e
    exact ⟨_, _, rfl, rfl, hC _ _ (by assumption), k _ H (fun _ _ h => h) (datC_rp (h _ _))⟩
  · cases e
abbrev opAdd := opI fun i j => .int (i + j)
abbrev opSub := opI fun i j => .int (i - j)
abbrev opLt := opI fun i j => .bool (decide (i < j))
abbrev opLe := opI fun i j => .bool (decide (i ≤ j))
abbrev opGt := opI fun i j => .bool (decide (j < i))
abbrev opGe := opI fun i j => .bool (decide (j ≤ i))
theorem r2Add : R2D (rI0 fun i j => .int (i + j)) opAdd := r2I fun _ _ => rfl
theorem r2Sub : R2D (rI0 fun i j => .int (i - j)) opSub := r2I fun _ _ => rfl
theorem r2Lt : R2D (rI0 fun i j => .bl (decide (i < j))) opLt := r2I fun _ _ => rfl
theorem r2Le : R2D (rI0 fun i j => .bl (decide (i ≤ j))) opLe := r2I fun _ _ => rfl
theorem r2Gt : R2D (rI0 fun i j => .bl (decide (j < i))) opGt := r2I fun _ _ => rfl
theorem r2Ge : R2D (rI0 fun i j => .bl (decide (j ≤ i))) opGe := r2I fun _ _ => rfl
instance (i j : Int) : Decidable (CMulW i j) := inferInstanceAs (Decidable (_ < _))
instance (i j : Int) : Decidable (CDivW i j) := inferInstanceAs (Decidable (_ ∧ _))
abbrev opMul := opIc (fun i j => decide (CMulW i j)) fun i j => .int (i * j)
theorem r2Mul : R2D (rI CMulW fun i j => .int (i * j)) opMul := r2Ic (fun _ _ h => of_decide_eq_true h) fun _ _ => rfl
abbrev opDiv := opIc (fun i j => decide (CDivW i j)) fun i j => .int (i / j)
theorem r2Div : R2D (rI CDivW fun i j => .int (i / j)) opDiv := r2Ic (fun _ _ h => of_decide_eq_true h) fun _ _ => rfl
abbrev opMod := opIc (fun _ j => decide (0 < j)) fun i j => .int (i % j)
theorem r2Mod : R2D (rI (fun _ j => 0 < j) fun i j => .int (i % j)) opMod := r2Ic (fun _ _ h => of_decide_eq_true h) fun _ _ => rfl
instance (i j : Int) : Decidable (CPow i j) := inferInstanceAs (Decidable (_ ∧ _))
abbrev opPow := opIc (fun i j => decide (CPow i j)) fun i j => .int (i ^ j.toNat)
theorem r2Pow : R2D (rI CPow fun i j => .int (i ^ j.toNat)) opPow := r2Ic (fun _ _ h => of_decide_eq_true h) fun _ _ => rfl
def opNeg : PyData → Option DV
  | .int a => some (.d (.int (-a)))
  | _ => none
theorem r1Neg : R1D (rU fun i => .int (-i)) opNeg := by
  intro t B H v a z Q _ ra e k
  cases ra <;> cases e
  exact ⟨_, rfl, k _ H (fun _ _ h => h) (Rp.int _)⟩
/-- ==, != of what is no list: None, truths, ints, texts -/
def sEq : PyData → PyData → Option Bool
  | .none, .none => some true
  | .none, .int _ => some false
  | .int _, .none => some false
  | .none, .bool _ => some false
  | .bool _, .none => some false
  | .none, .str _ => some false
  | .str _, .none => some false
  | .int a, .int b => some (decide (a = b))
  | .bool a, .bool b => some (decide (a = b))
  | .str a, .str b => some (decide (a = b))
  | _, _ => none
def opEq : PyData → PyData → Option DV := fun a b => (sEq a b).map fun c => .d (.bool c)
def opNe : PyData → PyData → Option DV := fun a b => (sEq a b).map fun c => .d (.bool (!c))
theorem sEq_ok {M : Hp} {v w : V} {a b : PyData} {c : Bool} (ra : Rp M v a) (rb : Rp M w b) (e : sEq a b = some c) : scal v w = true ∧ decide (v = w) = c := by
  cases ra <;> cases rb <;> cases e <;> refine ⟨rfl, ?_⟩ <;> first | rfl | (simp)
theorem r2Eq : R2D rEq opEq := by
  intro t B H v w a b z Q _ ra rb e k
  unfold opEq at e
  cases q : sEq a b with
  | none => rw [q] at e; cases e
  | some c =>
    rw [q] at e
    cases e
    obtain ⟨h1, h2⟩ := sEq_ok ra rb q
    refine ⟨h1, k _ H (fun _ _ h => h) ?_⟩
    rw [h2]
    exact Rp.bl c
theorem r2Ne : R2D rNe opNe := by
  intro t B H v w a b z Q _ ra rb e k
  unfold opNe at e
  cases q : sEq a b with
  | none => rw [q] at e; cases e
  | some c =>
    rw [q] at e
    cases e
    obtain ⟨h1, h2⟩ := sEq_ok ra rb q
    refine ⟨h1, k _ H (fun _ _ h => h) ?_⟩
    rw [h2]
    exact Rp.bl _
/-- ==, !=, in of data of any depth -/
def opEqD : PyData → PyData → Option DV := fun a b => if SeqAt.shaped a = true ∧ SeqAt.shaped b = true then some (.d (.bool (PyData.eqv a b))) else none
def opNeD : PyData → PyData → Option DV := fun a b => if SeqAt.shaped a = true ∧ SeqAt.shaped b = true then some (.d (.bool (!PyData.eqv a b))) else none
theorem up_msk {K : PySem.W.Frag} {B : Addr → Prop} {H : Hp} {v : V} {a : PyData} (r : Rp (msk B H) v a) : Dp K H v a := (r.ex msk_le).dp
theorem r2EqD {K : PySem.W.Frag} : R2D (rEqD K) opEqD := by
  intro t B H v w a b z Q _ ra rb e k
  unfold opEqD at e
  split at e
  · rename_i h
    cases e
    exact ⟨a, b, up_msk ra, up_msk rb, h.1, h.2, k _ H (fun _ _ h => h) (Rp.bl _)⟩
  · cases e
theorem r2NeD {K : PySem.W.Frag} : R2D (rNeD K) opNeD := by
  intro t B H v w a b z Q _ ra rb e k
  unfold opNeD at e
  split at e
  · rename_i h
    cases e
    exact ⟨a, b, up_msk ra, up_msk rb, h.1, h.2, k _ H (fun _ _ h => h) (Rp.bl _)⟩
  · cases e
def opIn (neg : Bool) : PyData → PyData → Option DV := fun a b => match b with
  | .list ds => if SeqAt.shaped a = true ∧ SeqAt.shaped (.list ds) = true then some (.d (.bool (if neg then !ds.any fun z => PyData.eqv z a else ds.any fun z => PyData.eqv z a))) else none
  | _ => none
theorem r2In {K : PySem.W.Frag} : R2D (rInD K) (opIn false) := by
  intro t B H v w a b z Q _ ra rb e k
  cases rb <;> simp only [opIn, reduceCtorEq] at e
  split at e
  · rename_i h1 h2 h
    cases e
    exact ⟨a, _, up_msk ra, (Rp.lst h1 h2 |> fun r => up_msk r), h.1, h.2, k _ H (fun _ _ h => h) (Rp.bl _)⟩
  · cases e
theorem r2NotIn {K : PySem.W.Frag} : R2D (rNotInD K) (opIn true) := by
  intro t B H v w a b z Q _ ra rb e k
  cases rb <;> simp only [opIn, reduceCtorEq] at e
  split at e
  · rename_i h1 h2 h
    cases e
    exact ⟨a, _, up_msk ra, (Rp.lst h1 h2 |> fun r => up_msk r), h.1, h.2, k _ H (fun _ _ h => h) (Rp.bl _)⟩
  · cases e
def isN : PyData → Bool
  | .none => true
  | _ => false
def opIsN (neg : Bool) : PyData → PyData → Option DV := fun a b => match b with
  | .none => some (.d (.bool (if neg then !isN a else isN a)))
  | _ => none
theorem isN_ok {M : Hp} {v : V} {a : PyData} (r : Rp M v a) : decide (v = .non) = isN a := by
  cases r <;> rfl
theorem r2IsN : R2D (fun x y H Q => y = .non ∧ Q (.bl (decide (x = .non))) H) (opIsN false) := by
  intro t B H v w a b z Q _ ra rb e k
  cases rb <;> cases e
  refine ⟨rfl, ?_⟩
  rw [isN_ok ra]
  exact k _ H (fun _ _ h => h) (Rp.bl _)
theorem r2NotN : R2D (fun x y H Q => y = .non ∧ Q (.bl (!decide (x = .non))) H) (opIsN true) := by
  intro t B H v w a b z Q _ ra rb e k
  cases rb <;> cases e
  refine ⟨rfl, ?_⟩
  rw [isN_ok ra]
  exact k _ H (fun _ _ h => h) (Rp.bl _)
/-- items -/
theorem RpA.atI {M : Hp} {vs : List V} {ds : List PyData} {i : Int} {d : PyData} (r : RpA M vs ds) (e : atI ds i = some d) : ∃ v, atI vs i = some v ∧ Rp M v d := by
  unfold L2.atI at e ⊢
  rw [r.length]
  cases q : ixN ds.length i with
  | none => rw [q] at e; cases e
  | some j =>
    rw [q] at e
    exact r.get e
def opIxL : PyData → PyData → Option DV
  | .list ds, .int i => (atI ds i).map .d
  | _, _ => none
def opIxT : PyData → PyData → Option DV
  | .tuple ds, .int i => (atI ds i).map .d
  | _, _ => none
theorem r2IxL {K : PySem.W.Frag} : R2D (rIxL K) opIxL := by
  intro t B H v w a b z Q _ ra rb e k
  cases ra <;> cases rb <;> simp only [opIxL, reduceCtorEq] at e
  rename_i h1 h2 i
  cases q : atI _ i with
  | none => rw [q] at e; cases e
  | some d =>
    rw [q] at e
    cases e
    obtain ⟨u, e1, r1⟩ := h2.atI q
    exact ⟨_, _, i, u, rfl, rfl, SqL.of (msk_some h1).2, e1, k _ H (fun _ _ h => h) r1⟩
theorem r2IxT {K : PySem.W.Frag} : R2D (rIxT K) opIxT := by
  intro t B H v w a b z Q _ ra rb e k
  cases ra <;> cases rb <;> simp only [opIxT, reduceCtorEq] at e
  rename_i h1 h2 i
  cases q : atI _ i with
  | none => rw [q] at e; cases e
  | some d =>
    rw [q] at e
    cases e
    obtain ⟨u, e1, r1⟩ := h2.atI q
    exact ⟨_, _, i, u, rfl, rfl, SqT.of (msk_some h1).2, e1, k _ H (fun _ _ h => h) r1⟩
/-- a new list of what lists hold -/
theorem new_own {t : V} {B : Addr → Prop} {H : Hp} {p : Addr} {vs : List V} {ds : List PyData} (hp : H p = none) (h : RpA (msk B H) vs ds) : VOk t B H (.ref p) (upd H p (.lst vs)) (.own ds) := by
  refine ⟨p, vs, rfl, .of hp, upd_same, h.ex fun b o _ e => ?_⟩
  obtain ⟨h1, h2⟩ := msk_some e
  have ne : b ≠ p := ne_of_none h2 hp
  rw [msk_out (fun z => z.elim h1 ne), upd_ne ne]
  exact h2
theorem new_tup {t : V} {B : Addr → Prop} {H : Hp} {p : Addr} {vs : List V} {ds : List PyData} (hB : ∀ b, B b → ∃ o, H b = some o) (hp : H p = none) (h : RpA (msk B H) vs ds) : VOk t B H (.ref p) (upd H p (.tup vs)) (.d (.tuple ds)) := by
  refine .tup (by rw [msk_out fun z => by obtain ⟨o, e⟩ := hB p z; rw [hp] at e; cases e]; exact upd_same) (h.ex fun b o _ e => ?_)
  obtain ⟨h1, h2⟩ := msk_some e
  rw [msk_out h1, upd_ne (ne_of_none h2 hp)]
  exact h2
def opCat : PyData → PyData → Option DV
  | .list a, .list b => if a.length + b.length ≤ 200000 then some (.own (a ++ b)) else none
  | _, _ => none
theorem r2Cat : R2D rCat opCat := by
  intro t B H v w a b z Q _ ra rb e k
  cases ra <;> cases rb <;> simp only [opCat, reduceCtorEq] at e
  rename_i h1 h2 _ _ _ h3 h4
  split at e
  · rename_i hz
    cases e
    refine ⟨_, _, _, _, rfl, rfl, (msk_some h1).2, (msk_some h3).2, ?_, fun p hp => k _ _ (same_new hp) (new_own hp (h2.app h4))⟩
    rw [h2.length, h4.length]
    exact Nat.le_trans hz (by decide)
  · cases e
/-- built-ins over data -/
def bLen : List PyData → Option DV
  | [.list ds] => some (.d (.int (ds.length : Nat)))
  | [.tuple ds] => some (.d (.int (ds.length : Nat)))
  | _ => none
theorem rsLen {K : PySem.W.Frag} : RsD (fun xs H Q => ∃ p ys, xs = [.ref p] ∧ (SqL K H p ys ∨ SqT K H p ys) ∧ Q (.int ys.length) H) bLen := by
  intro t B H vs as z Q _ r e k
  cases r with
  | nil => cases e
  | cons r t =>
    cases t with
    | cons _ _ => cases r <;> cases e
    | nil =>
      cases r <;> cases e
      · rename_i h1 h2
        refine ⟨_, _, rfl, .inl (SqL.of (msk_some h1).2), k _ H (fun _ _ h => h) ?_⟩
        rw [h2.length]
        exact Rp.int _
      · rename_i h1 h2
        refine ⟨_, _, rfl, .inr (SqT.of (msk_some h1).2), k _ H (fun _ _ h => h) ?_⟩
        rw [h2.length]
        exact Rp.int _
def bList : List PyData → Option DV
  | [.list ds] => some (.own ds)
  | [.tuple ds] => some (.own ds)
  | _ => none
theorem rsList {K : PySem.W.Frag} : RsD (fun xs H Q => ∃ p ys, xs = [.ref p] ∧ (SqL K H p ys ∨ SqT K H p ys) ∧ ∀ l, H l = none → Q (.ref l) (upd H l (.lst ys))) bList := by
  intro t B H vs as z Q _ r e k
  cases r with
  | nil => cases e
  | cons r t =>
    cases t with
    | cons _ _ => cases r <;> cases e
    | nil =>
      cases r <;> cases e
      · rename_i h1 h2
        exact ⟨_, _, rfl, .inl (SqL.of (msk_some h1).2), fun l hl => k _ _ (same_new hl) (new_own hl h2)⟩
      · rename_i h1 h2
        exact ⟨_, _, rfl, .inr (SqT.of (msk_some h1).2), fun l hl => k _ _ (same_new hl) (new_own hl h2)⟩
/-- the ints of a list -/
def intsOf : List PyData → Option (List Int)
  | [] => some []
  | .int i :: ds => (intsOf ds).map (i :: ·)
  | _ => none
theorem ints_of {M : Hp} : ∀ {vs : List V} {ds : List PyData} {ns : List Int}, RpA M vs ds → intsOf ds = some ns → vs = ns.map V.int
  | _, _, _, .nil, e => by cases e; rfl
  | _, _, ns, .cons r t, e => by
    cases r <;> simp only [intsOf, reduceCtorEq] at e
    cases q : intsOf _ with
    | none => rw [q] at e; cases e
    | some ms =>
      rw [q] at e
      cases e
      rw [ints_of t q]
      rfl
def bSum : List PyData → Option DV
  | [.list ds] => (intsOf ds).map fun ns => .d (.int ns.sum)
  | _ => none
theorem rsSum {K : PySem.W.Frag} : RsD (rSum K) bSum := by
  intro t B H vs as z Q _ r e k
  cases r with
  | nil => cases e
  | cons r t =>
    cases t with
    | cons _ _ => cases r <;> cases e
    | nil =>
      cases r <;> simp only [bSum, reduceCtorEq] at e
      rename_i a xs ds h1 h2
      cases q : intsOf ds with
      | none => rw [q] at e; cases e
      | some ns =>
        rw [q] at e
        cases e
        refine ⟨_, ns, rfl, ?_, k _ H (fun _ _ h => h) (Rp.int _)⟩
        rw [← ints_of h2 q]
        exact SqL.of (msk_some h1).2
def b2I (g : Int → Int → Int) : List PyData → Option DV
  | [.int a, .int b] => some (.d (.int (g a b)))
  | _ => none
theorem rs2I {g : Int → Int → Int} : RsD (fun xs H Q => ∃ i j, xs = [.int i, .int j] ∧ Q (.int (g i j)) H) (b2I g) := by
  intro t B H vs as z Q _ r e k
  cases r with
  | nil => cases e
  | cons r t =>
    cases t with
    | nil => cases r <;> cases e
    | cons q t =>
      cases t with
      | cons _ _ => cases r <;> cases q <;> cases e
      | nil =>
        cases r <;> cases q <;> cases e
        exact ⟨_, _, rfl, k _ H (fun _ _ h => h) (Rp.int _)⟩
abbrev bMax2 := b2I fun i j => if j > i then j else i
abbrev bMin2 := b2I fun i j => if j < i then j else i
def bAbs : List PyData → Option DV
  | [.int a] => some (.d (.int (if a < 0 then -a else a)))
  | _ => none
theorem rsAbs : RsD (fun xs H Q => ∃ i, xs = [.int i] ∧ Q (.int (if i < 0 then -i else i)) H) bAbs := by
  intro t B H vs as z Q _ r e k
  cases r with
  | nil => cases e
  | cons r t =>
    cases t with
    | cons _ _ => cases r <;> cases e
    | nil =>
      cases r <;> cases e
      exact ⟨_, rfl, k _ H (fun _ _ h => h) (Rp.int _)⟩

/-! ### contracts -/
def plainOf : List DV → Option (List PyData)
  | [] => some []
  | .d x :: rs => (plainOf rs).map (x :: ·)
  | _ => none
theorem plainOf_R : ∀ {rs : List DV} {ds : List PyData}, plainOf rs = some ds → plainR rs ∧ rs.length = ds.length
  | [], _, e => by cases e; exact ⟨fun r h => (by cases h), rfl⟩
  | .d x :: rs, ds, e => by
    unfold plainOf at e
    cases q : plainOf rs with
    | none => rw [q] at e; cases e
    | some es =>
      rw [q] at e
      cases e
      obtain ⟨h1, h2⟩ := plainOf_R q
      refine ⟨fun r h => ?_, by show rs.length + 1 = es.length + 1; rw [h2]⟩
      rcases List.mem_cons.mp h with z | z
      · exact .inl ⟨x, z⟩
      · exact h1 r z
  | .un :: _, _, e => by cases e
  | .tape :: _, _, e => by cases e
  | .raw _ :: _, _, e => by cases e
  | .own _ :: _, _, e => by cases e
  | .dic _ :: _, _, e => by cases e
/-- a def of k data that tells what g tells -/
def mP (k : Nat) (g : List PyData → Option DV) : DM := fun rs n Q => ∃ ds, plainOf rs = some ds ∧ ds.length = k ∧ ∃ z, g ds = some z ∧ Q z n
theorem lP {k : Nat} {g : List PyData → Option DV} : ∀ rs n Q, mP k g rs n Q → plainR rs ∧ rs.length = k := fun rs n Q ⟨ds, e, h, _⟩ => ⟨(plainOf_R e).1, (plainOf_R e).2.trans h⟩
/-- a def of a tape and k data -/
def tapeOf : List DV → Option (List PyData)
  | .tape :: rs => plainOf rs
  | _ => none
def mT (k : Nat) (g : List PyData → Int → DQ → Prop) : DM := fun rs n Q => ∃ ds, tapeOf rs = some ds ∧ ds.length = k ∧ g ds n Q
theorem lT {k : Nat} {g : List PyData → Int → DQ → Prop} : ∀ rs n Q, mT k g rs n Q → plainR rs ∧ rs.length = k + 1 := fun rs n Q ⟨ds, e, h, _⟩ => by
  cases rs with
  | nil => cases e
  | cons r rs =>
    cases r <;> first | cases e; done | skip
    have e' : plainOf rs = some ds := e
    obtain ⟨h1, h2⟩ := plainOf_R e'
    refine ⟨fun r hr => ?_, by show rs.length + 1 = _; rw [h2, h]⟩
    rcases List.mem_cons.mp hr with z | z
    · exact .inr z
    · exact h1 r z
/-- a list, a dict of one's own is told -/
theorem psRetOwn {X : Cx} {i : Nat} {e : Expr} {pos : Pos} (h : PE X e (tVar i)) : PS X (.Return (some e) pos) (sD fun E ρ n => ∃ r, ρ[i]? = some r ∧ r.isOwn = true ∧ E.rt r n) := (ps_ret h).imp fun D σ H ⟨c, A, n, ρ, E, e, ⟨r, h1, h2, h3⟩, L⟩ => by
  have q := e.slot i _ h1
  have xt : ∀ a, A i = some a → Xt (msk (c.av A) H) (msk (fun b => c.B b ∨ b = a) H) := fun a ha b o _ e' => by
    obtain ⟨g1, g2⟩ := msk_some e'
    rw [msk_out]
    · exact g2
    · rintro (z | z)
      · exact g1 (.inl z)
      · exact g1 (.inr ⟨i, by rw [z]; exact ha⟩)
  cases r with
  | un => cases h2
  | tape => cases h2
  | raw v => cases h2
  | d x => cases h2
  | own ds =>
    obtain ⟨a, vs, g1, g2, g3, g4⟩ := q
    exact ⟨_, g2, L.rt _ _ n H h3 e.fr0 ⟨a, vs, rfl, e.new i a g1, g3, g4.ex (xt a g1)⟩⟩
  | dic kvs =>
    obtain ⟨a, vs, g1, g2, g3, g4⟩ := q
    exact ⟨_, g2, L.rt _ _ n H h3 e.fr0 ⟨a, vs, rfl, e.new i a g1, g3, g4.ex (xt a g1)⟩⟩
/-- a, b = e1, e2 -/
def dPar (i j : Nat) (g : DA) : DS := fun E ρ n => g ρ n fun rs n1 => ∃ x y, rs = [.d x, .d y] ∧ i < ρ.length ∧ j < ρ.length ∧ E.nx ((ρ.set i (.d x)).set j (.d y)) n1
theorem psPar {X : Cx} {i j : Nat} {g : DA} {st : Stmt} (h : PS X st (tPar i j (tDA g))) : PS X st (sD (dPar i j g)) := h.imp fun D σ H ⟨c, A, n, ρ, E, e, hf, L⟩ => by
  refine ⟨c, A, n, ρ, _, e, hf, fun vs rs n1 H1 ⟨x, y, er, hi, hj, h1⟩ f1 o1 => ?_⟩
  subst er
  cases o1 with
  | @cons v _ vs _ hv _ t =>
    cases t with
    | @cons w _ ws _ hw _ t =>
      cases t
      refine ⟨v, w, rfl, ?_⟩
      have e1 := (e.fr f1).pins (l := [(w, y)]) fun p hp => by rw [List.mem_singleton.mp hp]; exact hw
      have e2 := e1.putD (i := i) (v := v) (d := x) hv hi
      have hw2 := e2.pinned (p := (w, y)) (List.mem_singleton.mpr rfl)
      exact L.nx _ _ _ _ _ h1 (e2.unpin.putD (i := j) hw2 (by rw [List.length_set]; exact hj))
def dPar3 (i j l : Nat) (g : DA) : DS := fun E ρ n => g ρ n fun rs n1 => ∃ x y z, rs = [.d x, .d y, .d z] ∧ i < ρ.length ∧ j < ρ.length ∧ l < ρ.length ∧ E.nx (((ρ.set i (.d x)).set j (.d y)).set l (.d z)) n1
theorem psPar3 {X : Cx} {i j l : Nat} {g : DA} {st : Stmt} (h : PS X st (tPar3 i j l (tDA g))) : PS X st (sD (dPar3 i j l g)) := h.imp fun D σ H ⟨c, A, n, ρ, E, e, hf, L⟩ => by
  refine ⟨c, A, n, ρ, _, e, hf, fun vs rs n1 H1 ⟨x, y, z, er, hi, hj, hl, h1⟩ f1 o1 => ?_⟩
  subst er
  cases o1 with
  | @cons v _ vs _ hv _ t =>
    cases t with
    | @cons w _ ws _ hw _ t =>
      cases t with
      | @cons u _ us _ hu _ t =>
        cases t
        refine ⟨v, w, u, rfl, ?_⟩
        have e1 := (e.fr f1).pins (l := [(w, y), (u, z)]) fun p hp => by
          rcases List.mem_cons.mp hp with q | q
          · rw [q]; exact hw
          · rw [List.mem_singleton.mp q]; exact hu
        have e2 := e1.putD (i := i) (v := v) (d := x) hv hi
        have hw2 := e2.pinned (p := (w, y)) List.mem_cons_self
        have e3 := e2.putD (i := j) hw2 (by rw [List.length_set]; exact hj)
        have hu2 := e3.pinned (p := (u, z)) (List.mem_cons_of_mem _ List.mem_cons_self)
        exact L.nx _ _ _ _ _ h1 (e3.unpin.putD (i := l) hu2 (by rw [List.length_set, List.length_set]; exact hl))
end

/-! ### sorted(xs, key=lambda row: (row[3], row[7])), and (-row[3], row[7]) -/
def lamArgs (p : Pos) : Arguments := { posonlyargs := [], args := [{ arg := "row", annotation := none, pos := p }], vararg := none, kwonlyargs := [], kw_defaults := [], kwarg := none, defaults := [] }
def lamScope : Scope := { kind := .function, names := [("row", .local)], isGenerator := false, isCoroutine := false }
def rowAt (k : Int) (p1 p2 p3 : Pos) : Expr := .Subscript (.Name "row" p1) (.Constant (.int k) 0 p2) p3
def keyE (neg : Bool) (p1 p2 p3 p4 p5 p6 p7 p8 : Pos) : Expr := .Tuple [if neg then .UnaryOp .USub (rowAt 3 p1 p2 p3) p4 else rowAt 3 p1 p2 p3, rowAt 7 p5 p6 p7] 0 p8
section
variable {prog : Program} {w : World} {A : Around} {E : Value → Shared → Prop} {s : Shared}
theorem rowAt_ok {q : Str} {L f c' t : Addr} {m : Str → Option Value} {items : Array Value} {k : Int} {j : Nat} {x : Value} {p1 p2 p3 : Pos} {Q : Value → Shared → Prop} (hn : s.heap.Ns L m) (hm : m "row" = some (.ref t)) (ht : PyProof.Rows.IsTup s.heap t items) (h0 : 0 ≤ k) (h63 : k < 2 ^ 63)
    (hj : seqIndex? k items.size = some j) (hx : items[j]? = some x) (h : ∀ tk, Q x { s with toks := tk }) : wpAny (model prog w) A (eval (rowAt k p1 p2 p3) (PySem.W.envX q lamScope L f (.ref c') [])) Q E s := by
  refine PyProof.Rows.Subscript_ (wpAny_Name (wpAny_loadName_local rfl rfl hn hm ?_) (by decide))
  refine wpAny_Constant_int ?_
  exact PyProof.Rows.subscriptTail_builtinR (x := x) (PyProof.Rows.IsTup.typeIs ht) PySem.F.slot_tuple_getitem.lookup
    (PyProof.Rows.getItem_tuple (j := j) (Q := fun r s' => r = x ∧ Q r s') ht (by omega) h63 hj hx ⟨rfl, h _⟩) rfl
def key1 (neg : Bool) (i : Int) : Int := if neg = true then -i else i
theorem keyE_ok {neg : Bool} {q : Str} {L f c' t : Addr} {m : Str → Option Value} {items : Array Value} {i j : Int} {ti tj : Tok} {p1 p2 p3 p4 p5 p6 p7 p8 : Pos} {Q : Value → Shared → Prop} (hn : s.heap.Ns L m) (hm : m "row" = some (.ref t)) (ht : PyProof.Rows.IsTup s.heap t items) (hz : items.size = 8)
    (h3 : items[3]? = some (.int i ti)) (h7 : items[7]? = some (.int j tj))
    (h : ∀ tk u, Q (.ref s.heap.objs.size) { s with heap := s.heap.push { cls := .type "tuple", data := .seq #[.int (key1 neg i) u, .int j tj] }, toks := tk }) :
    wpAny (model prog w) A (eval (keyE neg p1 p2 p3 p4 p5 p6 p7 p8) (PySem.W.envX q lamScope L f (.ref c') [])) Q E s := by
  refine wpAny_Tuple_spliced ?_
  have last : ∀ {tk : Nat} {R : List Value → Shared → Prop}, (∀ tk', R [.int j tj] { s with toks := tk' }) →
      wpAny (model prog w) A (spliced (backTo p8 (starEach [rowAt 7 p5 p6 p7] (PySem.W.envX q lamScope L f (.ref c') [])))) R E { s with toks := tk } := fun {tk R} hR => by
    show wpAny _ _ (spliced ((false, eval (rowAt 7 p5 p6 p7) (PySem.W.envX q lamScope L f (.ref c') [])) :: backTo p8 (starEach [] (PySem.W.envX q lamScope L f (.ref c') [])))) _ _ _
    refine Calls.spliced_cons (rowAt_ok (s := { s with toks := tk }) (j := 7) hn hm ht (by decide) (by decide) (by rw [hz]; rfl) h7 fun tk2 => ?_)
    exact Calls.spliced_nil (hR _)
  cases neg with
  | true =>
    show wpAny _ _ (spliced ((false, eval (.UnaryOp .USub (rowAt 3 p1 p2 p3) p4) (PySem.W.envX q lamScope L f (.ref c') [])) :: backTo p8 (starEach [rowAt 7 p5 p6 p7] (PySem.W.envX q lamScope L f (.ref c') [])))) _ _ _
    refine Calls.spliced_cons (PyProof.Rows.UnaryOp_ (rowAt_ok (j := 3) hn hm ht (by decide) (by decide) (by rw [hz]; rfl) h3 fun tk1 => PyProof.Rows.neg_int ?_))
    exact last fun tk' => ⟨by show 2 ≤ sizeLine; decide, h _ _⟩
  | false =>
    show wpAny _ _ (spliced ((false, eval (rowAt 3 p1 p2 p3) (PySem.W.envX q lamScope L f (.ref c') [])) :: backTo p8 (starEach [rowAt 7 p5 p6 p7] (PySem.W.envX q lamScope L f (.ref c') [])))) _ _ _
    refine Calls.spliced_cons (rowAt_ok (j := 3) hn hm ht (by decide) (by decide) (by rw [hz]; rfl) h3 fun tk1 => ?_)
    exact last fun tk' => ⟨by show 2 ≤ sizeLine; decide, h _ _⟩
/-- the lambda, called with a row -/
theorem lam_key {neg : Bool} {q : Str} {f c' t : Addr} {pm ctv : Value} {items : Array Value} {i j : Int} {ti tj : Tok} {p0 p1 p2 p3 p4 p5 p6 p7 p8 : Pos} (hd : A.depth < recursionLimit) (hlim : s.heap.NoLimit)
    (hf : s.heap.get? f = some (PySem.W.kla_obj "<lambda>" q (lamArgs p0) (keyE neg p1 p2 p3 p4 p5 p6 p7 p8) lamScope [] pm c' ctv)) (hrec : s.heap.CodeRec (.ref c') q) (ht : PyProof.Rows.IsTup s.heap t items) (hz : items.size = 8)
    (h3 : items[3]? = some (.int i ti)) (h7 : items[7]? = some (.int j tj)) :
    wpAny (model prog w) A (call (.ref f) [.ref t]) (PySem.W.KeyPure (.tuple [.int (key1 neg i), .int j]) s) (fun _ _ => False) s := by
  refine wpAny_call (PySem.W.kla_callFunE hd hf rfl rfl rfl rfl hrec ?_)
  have hb : bindArgs (PySem.W.kla_fn "<lambda>" q (lamArgs p0) (keyE neg p1 p2 p3 p4 p5 p6 p7 p8) lamScope [] pm (.ref c') ctv) ⟨[.ref t], []⟩ = pure [(("row" : Str), Value.ref t)] := by first | rfl | with_unfolding_all rfl | kernel_rfl
  rw [hb]
  refine wpAny_pure (wpAny_newFunctionEnv (scope := lamScope) (by decide +kernel) (fun y hy => by rw [List.mem_singleton.mp hy]; rfl) (fun h₁ hns hsb => ⟨hlim.fresh _ hsb, ?_⟩) rfl)
  show codeAny _ _ (.expr (keyE neg p1 p2 p3 p4 p5 p6 p7 p8) (PySem.W.envX q lamScope s.heap.objs.size f (.ref c') [])) _ _
  have kp : ∀ b o, s.heap.get? b = some o → h₁.get? b = some o := fun b o e => hsb.extBut b o (Nat.ne_of_lt (Heap.lt_size e)) (Heap.get?_push_of_some _ e)
  refine PySem.W.kla_codeExpr ?_
  refine keyE_ok (items := items) (i := i) (j := j) hns rfl (ht.keeps kp) hz h3 h7 fun tk u => ?_
  have kp2 : ∀ b o, s.heap.get? b = some o → (h₁.push { cls := .type "tuple", data := .seq #[.int (key1 neg i) u, .int j tj] } : Heap).get? b = some o := fun b o e => Heap.get?_push_of_some _ (kp b o e)
  refine ⟨_, _, rfl, kp2, ?_⟩
  exact Reads.tuple (Heap.get?_push_size _ rfl) rfl rfl (.cons (.int _ _) (.cons (.int _ _) .nil))
end
def rowLe (neg : Bool) (kk : V → Int × Int) : V → V → Bool := fun p q => decide (key1 neg (kk p).1 < key1 neg (kk q).1 ∨ (key1 neg (kk p).1 = key1 neg (kk q).1 ∧ (kk p).2 ≤ (kk q).2))
theorem extN_L {K : PySem.W.Frag} {H H' : Hp} {a : Addr} {xs : List V} (e : LamX.ExtN H H') (h : SqL K H a xs) : SqL K H' a xs := by
  rcases h with (h | ⟨o, h⟩) | h
  · exact .inl (.inl (e _ _ h fun ps z => by cases z))
  · exact .inl (.inr ⟨o, e _ _ h fun ps z => by cases z⟩)
  · exact .inr h
theorem extN_T {K : PySem.W.Frag} {H H' : Hp} {a : Addr} {xs : List V} (e : LamX.ExtN H H') (h : SqT K H a xs) : SqT K H' a xs := by
  rcases h with (h | ⟨o, h⟩) | h
  · exact .inl (.inl (e _ _ h fun ps z => by cases z))
  · exact .inl (.inr ⟨o, e _ _ h fun ps z => by cases z⟩)
  · exact .inr h
theorem each_of : ∀ {xs : List V} {us : List Value}, Vals xs us → PySem.W.EachIs (fun v x => RelV x v) us xs
  | _, _, .nil => .nil
  | _, _, .cons r t => .cons r (each_of t)
theorem vals_of : ∀ {us : List Value} {xs : List V}, PySem.W.EachIs (fun v x => RelV x v) us xs → Vals xs us
  | _, _, .nil => .nil
  | _, _, .cons r t => .cons r (vals_of t)
/-- what a row's lambda asks of the rows, what is told -/
def tSortLam (K : PySem.W.Frag) (T : List (Addr × Str)) (neg : Bool) (te : TE) : TE := fun σ H Q => te σ H fun x H1 => ∃ (a : Addr) (xs : List V) (kk : V → Int × Int), x = .ref a ∧ SqL K H1 a xs ∧
  (∀ y ∈ xs, ∃ t ws, y = .ref t ∧ SqT K H1 t ws ∧ ws.length = 8 ∧ ws[3]? = some (.int (kk y).1) ∧ ws[7]? = some (.int (kk y).2)) ∧ LamX.Tabs T H1 ∧
  ∀ H2 p, LamX.ExtN H1 H2 → LamX.Tabs T H2 → H2 p = none → Q (.ref p) (upd H2 p (.lst (xs.mergeSort (rowLe neg kk))))
theorem pe_sortLam {X : Cx} {T : List (Addr × Str)} {c P : Addr} {neg : Bool} {e : Expr} {te : TE} {p pos lpos kpos p0 p1 p2 p3 p4 p5 p6 p7 p8 : Pos} (hg : Gl X "sorted") (hm : X.mg "sorted" = none) (TB : LamX.TabB X.base X.mg c P) (hcode : X.env.code = .ref c)
    (hmT : (P, X.env.qual ++ "<lambda>") ∈ T) (hu : ∀ p ∈ T, p.1 = P → p.2 = X.env.qual ++ "<lambda>") (hr : Room 1 X.A) (he : PE X e te)
    (hst : backTo pos (starEach [e] X.env) = (false, eval e X.env) :: backTo pos (starEach [] X.env) := by rfl) (hpl : (backTo pos (starEach [e] X.env)).any (·.1) = false := by rfl) :
    PE X (.Call (.Name "sorted" p) [e] [⟨some "key", .Lambda (lamArgs p0) (keyE neg p1 p2 p3 p4 p5 p6 p7 p8) lamScope lpos, kpos⟩] pos) (tSortLam X.K T neg te) := by
  refine ⟨fun pins s σ H Q I h => ?_⟩
  refine wpAny_Call_Name_kw (ld_blt I hg hm (by decide +kernel : bootBuiltins "sorted" = some (.builtin "sorted")) ?_ (by decide) (by decide))
  refine PyProof.Rows.callWith_kw (kws := [⟨some "key", .Lambda (lamArgs p0) (keyE neg p1 p2 p3 p4 p5 p6 p7 p8) lamScope lpos, kpos⟩]) ?_ hst hpl rfl rfl
  rw [hst]
  refine Calls.spliced_cons (thn (he.run pins s σ H _ I h) fun u s1 ⟨x, H1, I1, r1, q1⟩ => Calls.spliced_nil ?_)
  obtain ⟨a, xs, kk, rfl, hs, hk, hT, q⟩ := q1
  obtain rfl : u = Value.ref a := r1
  show wpAny _ _ (evalAll ((do let v ← eval (.Lambda (lamArgs p0) (keyE neg p1 p2 p3 p4 p5 p6 p7 p8) lamScope lpos) X.env; standAt pos; pure v) :: [])) _ _ s1
  refine wpAny_evalAll_cons (wpAny_bind (LamX.lam_make2 I1 TB hcode hmT hu hT rfl (fun y hy e => by rw [List.mem_singleton.mp hy] at e; cases e) fun f c' pm ctv H2 s2 I2 eN T2 hf hfn hfr hco => wpAny_bind (wpAny_standAt (wpAny_pure ?_))))
  refine wpAny_evalAll_nil ?_
  show wpAny _ _ (call (.builtin "sorted") [.ref a] [("key", .ref f)]) _ _ s2
  obtain ⟨its, rv, hl, hz⟩ := I2.list (extN_L eN hs)
  have hun := hr.un
  have hdp := hr.dp
  have hrec : s2.heap.CodeRec (.ref c') (X.env.qual ++ "<lambda>") := by
    obtain ⟨⟨oc, vs, t, h1, h2, h3⟩, _⟩ := I2.hok c' _ hco
    exact ⟨c', oc, vs, t, rfl, h1, h2, h3⟩
  refine PySem.W.sorted_key_data (β := V) (R := fun v x => RelV x v) (b := false) (bs := xs) (vs := its) (fun y => .tuple [.int (key1 neg (kk y).1), .int (kk y).2]) hl.isList (each_of rv) ?_ ?_ hz ?_ (PyProof.Rows.ksk_s1 _ _) (fun _ => PyProof.Rows.ksk_l1 _ _) (fun x => PyProof.Rows.ksk_t1 f x) ?_ ?_
  · intro d hd d' hd'
    obtain ⟨y, _, rfl⟩ := List.mem_map.mp hd
    obtain ⟨y', _, rfl⟩ := List.mem_map.mp hd'
    rfl
  · refine .inl fun d hd => ?_
    obtain ⟨y, _, rfl⟩ := List.mem_map.mp hd
    exact ⟨_, _, rfl⟩
  · intro y hy
    have e : (PyData.tuple [.int (key1 neg (kk y).1), .int (kk y).2]).depth ≤ 10 := by
      simp [PyData.depth, PyData.depthAll]
    omega
  · intro v y hv hy h tk keep
    obtain ⟨t, ws, rfl, ht, hlen, h3, h7⟩ := hk y hy
    obtain rfl : v = Value.ref t := hv
    obtain ⟨its2, rv2, pl, hz2⟩ := I2.tuple (extN_T eN ht)
    obtain ⟨u3, e3, ru3⟩ := rv2.get h3
    obtain ⟨u7, e7, ru7⟩ := rv2.get h7
    obtain ⟨t3, rfl⟩ := ru3
    obtain ⟨t7, rfl⟩ := ru7
    exact lam_key (s := { s2 with heap := h, toks := tk }) (items := its2.toArray) (by show X.A.depth < _; omega) (I2.nolimit.keeps keep) (keep _ _ hf) (hrec.keeps keep) (pl.keeps keep) (by rw [List.size_toArray, ← rv2.length, hlen]) (by simpa using e3) (by simpa using e7)
  · intro out cc h' tk keep fresh hget hlen each
    have e2 : PySem.W.dataLe false (fun y : V => PyData.tuple [.int (key1 neg (kk y).1), .int (kk y).2]) = rowLe neg kk := PySem.W.dataLe_ii (fun y => key1 neg (kk y).1) (fun y => (kk y).2)
    rw [e2] at each
    refine ⟨.ref _, upd H2 (s2.heap.objs.size + 1) (.lst (xs.mergeSort (rowLe neg kk))), I2.laid (t' := tk) keep (Nat.le_succ _) ⟨?_, out, cc, vals_of each, hget⟩, rfl, q H2 _ eN T2 (I2.hok.fresh (Nat.le_succ _))⟩
    rw [List.length_mergeSort]
    exact hz

/-! ### data readings: slices, tuples joined, sorting, calls by keywords -/
section
variable [Fam] [Tabz]
theorem _root_.L2.Room.units65 {k : Nat} {A : Around} (r : Room k A) : A.units + 65 < cLine := by have := r.un; omega
def truD : PyData → Option Bool
  | .none => some false
  | .bool b => some b
  | .int i => some (i != 0)
  | .list ds => some (!ds.isEmpty)
  | .tuple ds => some (!ds.isEmpty)
  | _ => none
def dTru (f : DF) : DT := fun ρ n Q => f ρ n fun r n1 => ∃ a, r.dat = some a ∧ ∃ b, truD a = some b ∧ Q b n1
theorem RpA.empty {M : Hp} {vs : List V} {ds : List PyData} (r : RpA M vs ds) : vs.isEmpty = ds.isEmpty := by
  cases r <;> rfl
theorem ptTru {X : Cx} {a : Expr} {f : DF} (ha : PE X a (tD f)) (he : ∀ whole, isTrue a X.env whole = (do let v ← whole; standAt a.pos; holding [v] (truthy v))) : PT X a (tDT (dTru f)) := (pt_truth ha he).imp fun σ H Q ⟨c, A, n, ρ, Q', E, hf, k⟩ => by
  refine ⟨c, A, n, ρ, _, E, hf, fun v r n1 H1 ⟨a, ea, b, eb, hq⟩ f1 o1 => ⟨b, ?_, k b n1 H1 hq f1⟩⟩
  have rp := o1.dat E ea
  cases rp with
  | non => cases eb; exact rfl
  | bl b => cases eb; exact rfl
  | int i => cases eb; exact rfl
  | str x => cases eb
  | lst h1 h2 =>
    cases eb
    exact .inl ⟨_, SqL.of (msk_some h1).2, by rw [h2.empty]⟩
  | tup h1 h2 =>
    cases eb
    exact .inr (.inl ⟨_, SqT.of (msk_some h1).2, by rw [h2.empty]⟩)
/-- what is told, as data -/
theorem pdCold {X : Cx} {e : Expr} {f : DF} (h : PE X e (tD f)) : PE X e (tD fun ρ n Q => f ρ n fun r n1 => Q r.cold n1) := h.imp fun σ H Q ⟨c, A, n, ρ, Q', E, hf, k⟩ => ⟨c, A, n, ρ, _, E, hf, fun v r n1 H1 hq f1 o1 => k v _ n1 H1 hq f1 (o1.cold E)⟩
/-- two comparisons -/
def dChain (o1 o2 : PyData → PyData → Option DV) (f g h : DF) : DF := fun ρ n Q => f ρ n fun x n1 => g ρ n1 fun y n2 => ∃ a, x.dat = some a ∧ ∃ b, y.dat = some b ∧ ∃ k, o1 a b = some (.d (.bool k)) ∧ if k = true then h ρ n2 fun w n3 => ∃ c, w.dat = some c ∧ ∃ z, o2 b c = some z ∧ Q z n3 else Q (.d (.bool false)) n2
theorem chain_le {r r' : R2} {op op' : PyData → PyData → Option DV} {f g h : DF} (h1 : R2D r op) (h2 : R2D r' op') (σ : L2.St) (H : Hp) (Q : VK) (q : tD (dChain op op' f g h) σ H Q) : tChain r r' (tD f) (tD g) (tD h) σ H Q := by
  obtain ⟨c, A, n, ρ, Q', E, hf, k⟩ := q
  refine ⟨c, A, n, ρ, _, E, hf, fun v x n1 H1 hg f1 o1 => ⟨c, A, n1, ρ, _, E.fr f1, hg, fun w y n2 H2 hz f2 o2 => ?_⟩⟩
  obtain ⟨a, ea, b, eb, kb, ek, hq⟩ := hz
  have E2 := (E.fr f1).fr f2
  have ra := (o1.later E f1 f2).dat E ea
  have rb := o2.dat (E.fr f1) eb
  refine h1 c.t (c.av A) H2 v w a b _ _ (fun b hb => (E2.there hb).imp fun o h => h.1) ra rb ek fun u H3 s o => ?_
  cases o
  refine ⟨kb, rfl, ?_⟩
  have f3 : Fr c n2 H2 H3 := Fr.same E2.g s
  cases kb with
  | false => exact k _ _ n2 H3 hq ((f1.trans f2).trans f3) (Rp.bl false)
  | true =>
    refine ⟨c, A, n2, ρ, _, E2.fr f3, hq, fun w' r n3 H4 ⟨cc, ec, z, ez, h5⟩ f4 o4 => ?_⟩
    have E4 := (E2.fr f3).fr f4
    refine h2 c.t (c.av A) H4 w w' b cc z Q (fun b hb => (E4.there hb).imp fun o h => h.1) ((rb.ex f3.msk).ex f4.msk) (o4.dat (E2.fr f3) ec) ez fun u H5 s5 o5 => ?_
    have f5 : Fr c n3 H4 H5 := Fr.same E4.g s5
    exact k u z n3 H5 h5 (((f1.trans f2).trans f3).trans (f4.trans f5)) (VOk.mono E (((f1.trans f2).trans f3).trans f4) o5)
theorem pdChain {X : Cx} {o o' : CmpOp} {r r' : R2} {op op' : PyData → PyData → Option DV} {a b e : Expr} {f g h : DF} {pos : Pos} (h1 : R2D r op) (h2 : R2D r' op') (ho : OpR X (compareOp o) r) (ho' : OpR X (compareOp o') r') (ha : PE X a (tD f)) (hb : PE X b (tD g)) (hc : PE X e (tD h)) (hm : lastMarks [o, o'] [b, e] = false := by with_unfolding_all rfl) :
    PE X (.Compare a [o, o'] [b, e] pos) (tD (dChain op op' f g h)) := (pe_chain ho ho' ha hb hc hm).imp (chain_le h1 h2)
theorem ptChain {X : Cx} {o o' : CmpOp} {r r' : R2} {op op' : PyData → PyData → Option DV} {a b e : Expr} {f g h : DF} {pos : Pos} (h1 : R2D r op) (h2 : R2D r' op') (ho : OpR X (compareOp o) r) (ho' : OpR X (compareOp o') r') (ha : PE X a (tD f)) (hb : PE X b (tD g)) (hc : PE X e (tD h)) (hm : lastMarks [o, o'] [b, e] = false := by with_unfolding_all rfl) :
    PT X (.Compare a [o, o'] [b, e] pos) (tDT (dTest (dChain op op' f g h))) := (pt_chain ho ho' ha hb hc hm).imp fun σ H Q q => test_le (chain_le h1 h2) σ H Q q
/-- slices -/
abbrev DO := List DV → Int → (Option Int → Int → Prop) → Prop
def tDO (f : DO) : TO := fun σ H Q => ∃ (c : EC) (A : Nat → Option Addr) (n : Int) (ρ : List DV) (Q' : Option Int → Int → Prop), EnvA c A n σ H ρ ∧ f ρ n Q' ∧ ∀ o n' H', Q' o n' → Fr c n' H H' → Q o H'
theorem _root_.L2.PO.imp {X : Cx} {e : Option Expr} {t t' : TO} (h : PO X e t) (i : ∀ σ H Q, t' σ H Q → t σ H Q) : PO X e t' := ⟨fun pins s σ H Q I q => h.run pins s σ H Q I (i σ H Q q)⟩
def dONone : DO := fun _ n Q => Q none n
def dOSome (f : DF) : DO := fun ρ n Q => f ρ n fun r n1 => ∃ i, r = .d (.int i) ∧ Q (some i) n1
theorem poNone {X : Cx} : PO X none (tDO dONone) := po_none.imp fun σ H Q ⟨c, A, n, ρ, Q', E, hf, k⟩ => k none n H hf (.refl E.g)
theorem poSome {X : Cx} {e : Expr} {f : DF} (h : PE X e (tD f)) : PO X (some e) (tDO (dOSome f)) := (po_some h).imp fun σ H Q ⟨c, A, n, ρ, Q', E, hf, k⟩ =>
  ⟨c, A, n, ρ, _, E, hf, fun v r n1 H1 ⟨i, e, hq⟩ f1 o1 => by
    subst e
    cases o1
    exact ⟨i, rfl, k _ n1 H1 hq f1⟩⟩
def cutD (ds : List PyData) (lo hi : Option Int) : List PyData := (ds.drop (HT.sIx ds.length 0 lo)).take (HT.sIx ds.length ds.length hi - HT.sIx ds.length 0 lo)
theorem RpA.cut {M : Hp} {vs : List V} {ds : List PyData} (r : RpA M vs ds) (lo hi : Option Int) : RpA M (cutV vs lo hi) (cutD ds lo hi) := by
  unfold cutV cutD
  rw [r.length]
  exact (r.drop _).take _
def SlD (r : V → Option Int → Option Int → Hp → VK → Prop) (op : PyData → Option Int → Option Int → Option DV) : Prop := ∀ (t : V) (B : Addr → Prop) (H : Hp) (v : V) (a : PyData) (lo hi : Option Int) (z : DV) (Q : VK), (∀ b, B b → ∃ o, H b = some o) → Rp (msk B H) v a → op a lo hi = some z →
  (∀ u H', (∀ p o, H p = some o → H' p = some o) → VOk t B H u H' z → Q u H') → r v lo hi H Q
def dSl (op : PyData → Option Int → Option Int → Option DV) (f : DF) (g h : DO) : DF := fun ρ n Q => f ρ n fun x n1 => g ρ n1 fun lo n2 => h ρ n2 fun hi n3 => ∃ a, x.dat = some a ∧ ∃ z, op a lo hi = some z ∧ Q z n3
theorem pdSl {X : Cx} {r : V → Option Int → Option Int → Hp → VK → Prop} {op : PyData → Option Int → Option Int → Option DV} {e : Expr} {lo hi : Option Expr} {f : DF} {g h : DO} {p2 pos : Pos} (hd : SlD r op) (hr : SlR X r) (he : PE X e (tD f)) (hl : PO X lo (tDO g)) (hu : PO X hi (tDO h)) : PE X (.Subscript e (.Slice lo hi none p2) pos) (tD (dSl op f g h)) := (pe_slice hr he hl hu).imp fun σ H Q ⟨c, A, n, ρ, Q', E, hf, k⟩ => by
  refine ⟨c, A, n, ρ, _, E, hf, fun v x n1 H1 h1 f1 o1 => ⟨c, A, n1, ρ, _, E.fr f1, h1, fun lo n2 H2 h2 f2 => ⟨c, A, n2, ρ, _, (E.fr f1).fr f2, h2, fun hi n3 H3 ⟨a, ea, z, ez, h3⟩ f3 => ?_⟩⟩⟩
  have E3 := ((E.fr f1).fr f2).fr f3
  refine hd c.t (c.av A) H3 v a lo hi z Q (fun b hb => (E3.there hb).imp fun o h => h.1) (((o1.later E f1 f2).later E (f1.trans f2) f3).dat E ea) ez fun u H' s o => ?_
  exact k u z n3 H' h3 (((f1.trans f2).trans f3).trans (Fr.same E3.g s)) (VOk.mono E ((f1.trans f2).trans f3) o)
def opSlL : PyData → Option Int → Option Int → Option DV
  | .list ds, lo, hi => some (.own (cutD ds lo hi))
  | _, _, _ => none
def opSlT : PyData → Option Int → Option Int → Option DV
  | .tuple ds, lo, hi => some (.d (.tuple (cutD ds lo hi)))
  | _, _, _ => none
theorem slLD {K : PySem.W.Frag} : SlD (rSlL K) opSlL := by
  intro t B H v a lo hi z Q _ ra e k
  cases ra <;> cases e
  rename_i h1 h2
  exact ⟨_, _, rfl, SqL.of (msk_some h1).2, fun p hp => k _ _ (same_new hp) (new_own hp (h2.cut lo hi))⟩
theorem slTD {K : PySem.W.Frag} : SlD (rSlA K) opSlT := by
  intro t B H v a lo hi z Q hB ra e k
  cases ra with
  | @tup a xs ds h1 h2 =>
    cases e
    refine ⟨_, _, rfl, SqT.of (msk_some h1).2, fun hw => k _ H (fun _ _ h => h) ?_, fun _ p hp => k _ _ (same_new hp) (new_tup hB hp (h2.cut lo hi))⟩
    rw [h2.length] at hw
    have e : cutD ds lo hi = ds := by
      unfold cutD
      rw [hw.1, hw.2, List.drop_zero, Nat.sub_zero, List.take_length]
    rw [e]
    exact Rp.tup h1 h2
  | _ => cases e
def opCatT : PyData → PyData → Option DV
  | .tuple a, .tuple b => if a.length + b.length ≤ 200000 then some (.d (.tuple (a ++ b))) else none
  | _, _ => none
theorem r2CatT {K : PySem.W.Frag} : R2D (rCatA K) opCatT := by
  intro t B H v w a b z Q hB ra rb e k
  cases ra <;> cases rb <;> simp only [opCatT, reduceCtorEq] at e
  rename_i h1 h2 _ _ _ h3 h4
  split at e
  · rename_i hz
    cases e
    refine ⟨_, _, _, _, rfl, rfl, SqT.of (msk_some h1).2, SqT.of (msk_some h3).2, ?_, fun e => k _ H (fun _ _ h => h) ?_, fun _ e => k _ H (fun _ _ h => h) ?_, fun _ _ p hp => k _ _ (same_new hp) (new_tup hB hp (h2.app h4))⟩
    · rw [h2.length, h4.length]
      exact Nat.le_trans hz (by decide)
    · subst e
      cases h2
      exact Rp.tup h3 h4
    · subst e
      cases h4
      rw [List.append_nil]
      exact Rp.tup h1 h2
  · cases e
/-- x in (..) of data -/
def opInT (neg : Bool) : PyData → PyData → Option DV := fun a b => match b with
  | .tuple ds => if SeqAt.shaped a = true ∧ SeqAt.shaped (.tuple ds) = true then some (.d (.bool (if neg then !ds.any fun z => PyData.eqv z a else ds.any fun z => PyData.eqv z a))) else none
  | _ => none
def rInT (K : PySem.W.Frag) : R2 := fun x y H Q => ∃ d ds, Dp K H x d ∧ Dp K H y (.tuple ds) ∧ SeqAt.shaped d = true ∧ SeqAt.shaped (.tuple ds) = true ∧ Q (.bl (ds.any fun z => PyData.eqv z d)) H
theorem op_inT {X : Cx} (hu : X.A.units + 65 < cLine) : OpR X (PySem.compareOp .In) (rInT X.K) := by
  intro pins s σ H x y v u Q I rx ry h
  obtain ⟨d, ds, hd, he, sd, se, q⟩ := h
  obtain ⟨as, r1⟩ := Dp.reads I d x v hd rx
  obtain ⟨bs, r2⟩ := Dp.reads I (.tuple ds) y u he ry
  exact SeqAt.in_tuple_reads r2 r1 (SeqAt.canLay_of_shaped se) (SeqAt.canLay_of_shaped sd) (PyProof.Rows.room_in_shaped sd hu) ⟨.bl _, H, I, rfl, q⟩
theorem r2InT {K : PySem.W.Frag} : R2D (rInT K) (opInT false) := by
  intro t B H v w a b z Q _ ra rb e k
  cases rb <;> simp only [opInT, reduceCtorEq] at e
  split at e
  · rename_i h1 h2 h
    cases e
    exact ⟨a, _, up_msk ra, (Rp.tup h1 h2 |> fun r => up_msk r), h.1, h.2, k _ H (fun _ _ h => h) (Rp.bl _)⟩
  · cases e
/-- max, min of a list of ints -/
def maxI : List Int → Option Int
  | [] => none
  | i :: is => some (is.foldl max i)
def minI : List Int → Option Int
  | [] => none
  | i :: is => some (is.foldl min i)
theorem foldl_max (is : List Int) : ∀ i : Int, (is.foldl max i ∈ i :: is) ∧ ∀ j ∈ i :: is, j ≤ is.foldl max i := by
  induction is with
  | nil => intro i; exact ⟨List.mem_cons_self, fun j hj => by rw [List.mem_singleton.mp hj]; exact Int.le_refl _⟩
  | cons a is ih =>
    intro i
    obtain ⟨h1, h2⟩ := ih (max i a)
    refine ⟨?_, fun j hj => ?_⟩
    · rcases List.mem_cons.mp h1 with e | e
      · show is.foldl max (max i a) ∈ _
        rw [e]
        by_cases h : i ≤ a
        · rw [show max i a = a by omega]; exact List.mem_cons_of_mem _ List.mem_cons_self
        · rw [show max i a = i by omega]; exact List.mem_cons_self
      · exact List.mem_cons_of_mem _ (List.mem_cons_of_mem _ e)
    · have hm := h2 (max i a) List.mem_cons_self
      show j ≤ is.foldl max (max i a)
      rcases List.mem_cons.mp hj with e | e
      · omega
      · rcases List.mem_cons.mp e with e | e
        · omega
        · exact h2 j (List.mem_cons_of_mem _ e)
theorem foldl_min (is : List Int) : ∀ i : Int, (is.foldl min i ∈ i :: is) ∧ ∀ j ∈ i :: is, is.foldl min i ≤ j := by
  induction is with
  | nil => intro i; exact ⟨List.mem_cons_self, fun j hj => by rw [List.mem_singleton.mp hj]; exact Int.le_refl _⟩
  | cons a is ih =>
    intro i
    obtain ⟨h1, h2⟩ := ih (min i a)
    refine ⟨?_, fun j hj => ?_⟩
    · rcases List.mem_cons.mp h1 with e | e
      · show is.foldl min (min i a) ∈ _
        rw [e]
        by_cases h : i ≤ a
        · rw [show min i a = i by omega]; exact List.mem_cons_self
        · rw [show min i a = a by omega]; exact List.mem_cons_of_mem _ List.mem_cons_self
      · exact List.mem_cons_of_mem _ (List.mem_cons_of_mem _ e)
    · have hm := h2 (min i a) List.mem_cons_self
      show is.foldl min (min i a) ≤ j
      rcases List.mem_cons.mp hj with e | e
      · omega
      · rcases List.mem_cons.mp e with e | e
        · omega
        · exact h2 j (List.mem_cons_of_mem _ e)
def bMaxL : List PyData → Option DV
  | [.list ds] => (intsOf ds).bind fun ns => (maxI ns).map fun m => .d (.int m)
  | _ => none
def bMinL : List PyData → Option DV
  | [.list ds] => (intsOf ds).bind fun ns => (minI ns).map fun m => .d (.int m)
  | _ => none
theorem rsMax {K : PySem.W.Frag} : RsD (rMax K) bMaxL := by
  intro t B H vs as z Q _ r e k
  cases r with
  | nil => cases e
  | cons r t =>
    cases t with
    | cons _ _ => cases r <;> cases e
    | nil =>
      cases r <;> simp only [bMaxL, reduceCtorEq] at e
      rename_i a xs ds h1 h2
      cases q : intsOf ds with
      | none => rw [q] at e; cases e
      | some ns =>
        rw [q] at e
        cases ns with
        | nil => cases e
        | cons i is =>
          cases e
          obtain ⟨m1, m2⟩ := foldl_max is i
          refine ⟨_, i :: is, rfl, ?_, Nat.succ_pos _, fun m hm hm2 => ?_⟩
          · rw [← ints_of h2 q]
            exact SqL.of (msk_some h1).2
          · have : m = is.foldl max i := Int.le_antisymm (m2 m hm) (hm2 _ m1)
            rw [this]
            exact k _ H (fun _ _ h => h) (Rp.int _)
theorem rsMin {K : PySem.W.Frag} : RsD (rMin K) bMinL := by
  intro t B H vs as z Q _ r e k
  cases r with
  | nil => cases e
  | cons r t =>
    cases t with
    | cons _ _ => cases r <;> cases e
    | nil =>
      cases r <;> simp only [bMinL, reduceCtorEq] at e
      rename_i a xs ds h1 h2
      cases q : intsOf ds with
      | none => rw [q] at e; cases e
      | some ns =>
        rw [q] at e
        cases ns with
        | nil => cases e
        | cons i is =>
          cases e
          obtain ⟨m1, m2⟩ := foldl_min is i
          refine ⟨_, i :: is, rfl, ?_, Nat.succ_pos _, fun m hm hm2 => ?_⟩
          · rw [← ints_of h2 q]
            exact SqL.of (msk_some h1).2
          · have : m = is.foldl min i := Int.le_antisymm (hm2 _ m1) (m2 m hm)
            rw [this]
            exact k _ H (fun _ _ h => h) (Rp.int _)
/-- one value is one thing -/
theorem Rp.one {M : Hp} {v : V} {d : PyData} (r : Rp M v d) : ∀ e, Rp M v e → d = e := by
  refine Rp.rec (motive_1 := fun v d _ => ∀ e, Rp M v e → d = e) (motive_2 := fun vs ds _ => ∀ es, RpA M vs es → ds = es) ?_ ?_ ?_ ?_ ?_ ?_ ?_ ?_ r
  · intro e h; cases h; rfl
  · intro b e h; cases h; rfl
  · intro i e h; cases h; rfl
  · intro x e h; cases h; rfl
  · intro a xs ds h _ ih e he
    cases he with
    | lst h' r' =>
      rw [h] at h'
      cases h'
      rw [ih _ r']
    | tup h' r' =>
      rw [h] at h'
      cases h'
  · intro a xs ds h _ ih e he
    cases he with
    | lst h' r' =>
      rw [h] at h'
      cases h'
    | tup h' r' =>
      rw [h] at h'
      cases h'
      rw [ih _ r']
  · intro es h; cases h; rfl
  · intro v vs d ds _ _ h1 h2 es h
    cases h with
    | cons a b => rw [h1 _ a, h2 _ b]
noncomputable def datOf (M : Hp) (v : V) : PyData := open Classical in if h : ∃ d, Rp M v d then h.choose else .none
theorem datOf_eq {M : Hp} {v : V} {d : PyData} (r : Rp M v d) : datOf M v = d := by
  have h : ∃ d, Rp M v d := ⟨d, r⟩
  unfold datOf
  rw [dif_pos h]
  exact h.choose_spec.one _ r
theorem RpA.datOf {M : Hp} : ∀ {vs : List V} {ds : List PyData}, RpA M vs ds → ds = vs.map (datOf M) ∧ ∀ v ∈ vs, Rp M v (Rh.datOf M v)
  | _, _, .nil => ⟨rfl, fun v h => by cases h⟩
  | _, _, .cons r t => by
    obtain ⟨h1, h2⟩ := RpA.datOf t
    refine ⟨by rw [List.map_cons, datOf_eq r, ← h1], fun v hv => ?_⟩
    rcases List.mem_cons.mp hv with e | e
    · rw [e, datOf_eq r]; exact r
    · exact h2 v e
theorem RpA.of_datOf {M : Hp} : ∀ {vs : List V}, (∀ v ∈ vs, Rp M v (Rh.datOf M v)) → RpA M vs (vs.map (Rh.datOf M))
  | [], _ => .nil
  | v :: vs, h => .cons (h v List.mem_cons_self) (RpA.of_datOf fun w hw => h w (List.mem_cons_of_mem _ hw))
/-- a row's price and rank -/
def rowK : PyData → Option (Int × Int)
  | .tuple [_, _, _, .int p, _, _, _, .int k] => some (p, k)
  | _ => none
def leK (neg : Bool) : PyData → PyData → Bool := fun a b => match rowK a, rowK b with
  | some p, some q => decide (key1 neg p.1 < key1 neg q.1 ∨ (key1 neg p.1 = key1 neg q.1 ∧ p.2 ≤ q.2))
  | _, _ => false
def dSortR (neg : Bool) (f : DF) : DF := fun ρ n Q => f ρ n fun r n1 => ∃ ds, r.dat = some (.list ds) ∧ (∀ d ∈ ds, (rowK d).isSome = true) ∧ Q (.own (ds.mergeSort (leK neg))) n1
theorem rowK_parts {M : Hp} {v : V} {d : PyData} {p k : Int} (r : Rp M v d) (e : rowK d = some (p, k)) : ∃ t ws, v = .ref t ∧ M t = some (.tup ws) ∧ ws.length = 8 ∧ ws[3]? = some (.int p) ∧ ws[7]? = some (.int k) := by
  unfold rowK at e
  split at e
  · cases e
    cases r with
    | tup h1 h2 =>
      cases h2 with
      | cons _ t => cases t with
        | cons _ t => cases t with
          | cons _ t => cases t with
            | cons a t => cases t with
              | cons _ t => cases t with
                | cons _ t => cases t with
                  | cons _ t => cases t with
                    | cons b t =>
                      cases t
                      cases a
                      cases b
                      exact ⟨_, _, rfl, h1, rfl, rfl, rfl⟩
  · cases e
theorem sort_own {c : EC} {A : Nat → Option Addr} {n : Int} {σ : L2.St} {H H2 : Hp} {ρ : List DV} (E : EnvA c A n σ H ρ) {xs : List V} {ds : List PyData} {p : Addr} {leV : V → V → Bool} {leP : PyData → PyData → Bool} (ra : RpA (msk (c.av A) H) xs ds)
    (hle : ∀ a ∈ xs, ∀ b ∈ xs, leV a b = leP (datOf (msk (c.av A) H) a) (datOf (msk (c.av A) H) b)) (eN : LamX.ExtN H H2) (hT : LamX.Tabs Tabz.T H2) (hp : H2 p = none) :
    Fr c n H (upd H2 p (.lst (xs.mergeSort leV))) ∧ VOk c.t (c.av A) H (.ref p) (upd H2 p (.lst (xs.mergeSort leV))) (.own (ds.mergeSort leP)) := by
  have fr : Fr c n H (upd H2 p (.lst (xs.mergeSort leV))) := by
    refine ⟨fun b o _ q e => ?_, Fam.mv E.g.1 fun a o e h => ?_, hT.ext (same_new hp)⟩
    · exact same_new hp b o (eN b o e q)
    · obtain ⟨ys, hy⟩ := Fam.ty E.g.1 e
      rw [hy] at h
      cases h
      exact same_new hp _ _ (eN a _ hy fun ps z => by cases z)
  refine ⟨fr, p, _, rfl, fun o e => ?_, upd_same, ?_⟩
  · apply Classical.byContradiction
    intro no
    have := eN p o e fun ps z => no ⟨ps, z⟩
    rw [hp] at this
    cases this
  · obtain ⟨h1, h2⟩ := ra.datOf
    have h3 : RpA (msk (c.av A) H) (xs.mergeSort leV) ((xs.mergeSort leV).map (datOf (msk (c.av A) H))) := RpA.of_datOf fun v hv => h2 v (List.mem_mergeSort.mp hv)
    rw [List.map_mergeSort (s := leP) hle, ← h1] at h3
    refine h3.ex fun b o q e => ?_
    obtain ⟨g1, g2⟩ := msk_some e
    have e2 := eN b o g2 q
    have nb : b ≠ p := fun z => by rw [z, hp] at e2; cases e2
    rw [msk_out fun z => z.elim g1 nb, upd_ne nb]
    exact e2
theorem pdSortR {X : Cx} {e : Expr} {neg : Bool} {f : DF} (h : PE X e (tSortLam X.K Tabz.T neg (tD f))) : PE X e (tD (dSortR neg f)) := h.imp fun σ H Q ⟨c, A, n, ρ, Q', E, hf, k⟩ => by
  refine ⟨c, A, n, ρ, _, E, hf, fun v r n1 H1 ⟨ds, e1, ok, h1⟩ f1 o1 => ?_⟩
  have rp := o1.dat E e1
  have E1 := E.fr f1
  cases rp with
  | @lst a xs _ g1 g2 =>
    obtain ⟨d1, d2⟩ := g2.datOf
    have okx : ∀ y ∈ xs, ∃ pk, rowK (datOf (msk (c.av A) H1) y) = some pk := fun y hy => Option.isSome_iff_exists.mp (ok _ (by rw [d1]; exact List.mem_map.mpr ⟨y, hy, rfl⟩))
    refine ⟨a, xs, fun y => (rowK (datOf (msk (c.av A) H1) y)).getD (0, 0), rfl, SqL.of (msk_some g1).2, fun y hy => ?_, E1.g.2, fun H2 p eN hT hp => ?_⟩
    · obtain ⟨pk, e2⟩ := okx y hy
      obtain ⟨t, ws, e3, e4, e5, e6, e7⟩ := rowK_parts (d2 y hy) e2
      refine ⟨t, ws, e3, SqT.of (msk_some e4).2, e5, ?_, ?_⟩
      · show _ = some (V.int ((rowK (datOf (msk (c.av A) H1) y)).getD (0, 0)).1)
        rw [e2]; exact e6
      · show _ = some (V.int ((rowK (datOf (msk (c.av A) H1) y)).getD (0, 0)).2)
        rw [e2]; exact e7
    · obtain ⟨fr, vo⟩ := sort_own E1 (leP := leK neg) (leV := rowLe neg fun y => (rowK (datOf (msk (c.av A) H1) y)).getD (0, 0)) g2 (fun a ha b hb => by
        obtain ⟨pa, ea⟩ := okx a ha
        obtain ⟨pb, eb⟩ := okx b hb
        unfold rowLe leK
        simp only [ea, eb, Option.getD_some]) eN hT hp
      exact k _ _ n1 _ h1 (f1.trans fr) (VOk.mono E f1 vo)
/-- sorted(xs, key=lambda row: row[7]) -/
def rowR : PyData → Option Int := fun d => (rowK d).map Prod.snd
def leR : PyData → PyData → Bool := fun a b => match rowK a, rowK b with
  | some p, some q => decide (p.2 ≤ q.2)
  | _, _ => false
theorem lam_rank {prog : Program} {w : World} {A : Around} {s : Shared} {q : Str} {f c' t : Addr} {pm ctv : Value} {items : Array Value} {j : Int} {tj : Tok} {p0 p5 p6 p7 : Pos} (hd : A.depth < recursionLimit) (hlim : s.heap.NoLimit)
    (hf : s.heap.get? f = some (PySem.W.kla_obj "<lambda>" q (lamArgs p0) (rowAt 7 p5 p6 p7) lamScope [] pm c' ctv)) (hrec : s.heap.CodeRec (.ref c') q) (ht : PyProof.Rows.IsTup s.heap t items) (hz : items.size = 8)
    (h7 : items[7]? = some (.int j tj)) :
    wpAny (model prog w) A (call (.ref f) [.ref t]) (PySem.W.KeyPure (.int j) s) (fun _ _ => False) s := by
  refine wpAny_call (PySem.W.kla_callFunE hd hf rfl rfl rfl rfl hrec ?_)
  have hb : bindArgs (PySem.W.kla_fn "<lambda>" q (lamArgs p0) (rowAt 7 p5 p6 p7) lamScope [] pm (.ref c') ctv) ⟨[.ref t], []⟩ = pure [(("row" : Str), Value.ref t)] := by first | rfl | with_unfolding_all rfl | kernel_rfl
  rw [hb]
  refine wpAny_pure (wpAny_newFunctionEnv (scope := lamScope) (by decide +kernel) (fun y hy => by rw [List.mem_singleton.mp hy]; rfl) (fun h₁ hns hsb => ⟨hlim.fresh _ hsb, ?_⟩) rfl)
  show codeAny _ _ (.expr (rowAt 7 p5 p6 p7) (PySem.W.envX q lamScope s.heap.objs.size f (.ref c') [])) _ _
  have kp : ∀ b o, s.heap.get? b = some o → h₁.get? b = some o := fun b o e => hsb.extBut b o (Nat.ne_of_lt (Heap.lt_size e)) (Heap.get?_push_of_some _ e)
  refine PySem.W.kla_codeExpr ?_
  refine rowAt_ok (items := items) (j := 7) hns rfl (ht.keeps kp) (by decide) (by decide) (by rw [hz]; rfl) h7 fun tk => ?_
  exact ⟨_, _, rfl, kp, .int _ _⟩
def tSortRk (K : PySem.W.Frag) (T : List (Addr × Str)) (te : TE) : TE := fun σ H Q => te σ H fun x H1 => ∃ (a : Addr) (xs : List V) (kk : V → Int), x = .ref a ∧ SqL K H1 a xs ∧
  (∀ y ∈ xs, ∃ t ws, y = .ref t ∧ SqT K H1 t ws ∧ ws.length = 8 ∧ ws[7]? = some (.int (kk y))) ∧ LamX.Tabs T H1 ∧
  ∀ H2 p, LamX.ExtN H1 H2 → LamX.Tabs T H2 → H2 p = none → Q (.ref p) (upd H2 p (.lst (xs.mergeSort fun a b => decide (kk a ≤ kk b))))
theorem pe_sortRk {X : Cx} {T : List (Addr × Str)} {c P : Addr} {e : Expr} {te : TE} {p pos lpos kpos p0 p5 p6 p7 : Pos} (hg : Gl X "sorted") (hm : X.mg "sorted" = none) (TB : LamX.TabB X.base X.mg c P) (hcode : X.env.code = .ref c)
    (hmT : (P, X.env.qual ++ "<lambda>") ∈ T) (hu : ∀ p ∈ T, p.1 = P → p.2 = X.env.qual ++ "<lambda>") (hr : Room 1 X.A) (he : PE X e te)
    (hst : backTo pos (starEach [e] X.env) = (false, eval e X.env) :: backTo pos (starEach [] X.env) := by rfl) (hpl : (backTo pos (starEach [e] X.env)).any (·.1) = false := by rfl) :
    PE X (.Call (.Name "sorted" p) [e] [⟨some "key", .Lambda (lamArgs p0) (rowAt 7 p5 p6 p7) lamScope lpos, kpos⟩] pos) (tSortRk X.K T te) := by
  refine ⟨fun pins s σ H Q I h => ?_⟩
  refine wpAny_Call_Name_kw (ld_blt I hg hm (by decide +kernel : bootBuiltins "sorted" = some (.builtin "sorted")) ?_ (by decide) (by decide))
  refine PyProof.Rows.callWith_kw (kws := [⟨some "key", .Lambda (lamArgs p0) (rowAt 7 p5 p6 p7) lamScope lpos, kpos⟩]) ?_ hst hpl rfl rfl
  rw [hst]
  refine Calls.spliced_cons (thn (he.run pins s σ H _ I h) fun u s1 ⟨x, H1, I1, r1, q1⟩ => Calls.spliced_nil ?_)
  obtain ⟨a, xs, kk, rfl, hs, hk, hT, q⟩ := q1
  obtain rfl : u = Value.ref a := r1
  show wpAny _ _ (evalAll ((do let v ← eval (.Lambda (lamArgs p0) (rowAt 7 p5 p6 p7) lamScope lpos) X.env; standAt pos; pure v) :: [])) _ _ s1
  refine wpAny_evalAll_cons (wpAny_bind (LamX.lam_make2 I1 TB hcode hmT hu hT rfl (fun y hy e => by rw [List.mem_singleton.mp hy] at e; cases e) fun f c' pm ctv H2 s2 I2 eN T2 hf hfn hfr hco => wpAny_bind (wpAny_standAt (wpAny_pure ?_))))
  refine wpAny_evalAll_nil ?_
  show wpAny _ _ (call (.builtin "sorted") [.ref a] [("key", .ref f)]) _ _ s2
  obtain ⟨its, rv, hl, hz⟩ := I2.list (extN_L eN hs)
  have hun := hr.un
  have hdp := hr.dp
  have hrec : s2.heap.CodeRec (.ref c') (X.env.qual ++ "<lambda>") := by
    obtain ⟨⟨oc, vs, t, h1, h2, h3⟩, _⟩ := I2.hok c' _ hco
    exact ⟨c', oc, vs, t, rfl, h1, h2, h3⟩
  refine PySem.W.sorted_key_data (β := V) (R := fun v x => RelV x v) (b := false) (bs := xs) (vs := its) (fun y => .int (kk y)) hl.isList (each_of rv) ?_ ?_ hz ?_ (PyProof.Rows.ksk_s1 _ _) (fun _ => PyProof.Rows.ksk_l1 _ _) (fun x => PyProof.Rows.ksk_t1 f x) ?_ ?_
  · intro d hd d' hd'
    obtain ⟨y, _, rfl⟩ := List.mem_map.mp hd
    obtain ⟨y', _, rfl⟩ := List.mem_map.mp hd'
    rfl
  · refine .inr fun d hd => ?_
    obtain ⟨y, _, rfl⟩ := List.mem_map.mp hd
    exact ⟨(fun z => by cases z), fun xs z => by cases z⟩
  · intro y hy
    have e : (PyData.int (kk y)).depth ≤ 10 := by
      simp [PyData.depth]
    omega
  · intro v y hv hy h tk keep
    obtain ⟨t, ws, rfl, ht, hlen, h7⟩ := hk y hy
    obtain rfl : v = Value.ref t := hv
    obtain ⟨its2, rv2, pl, hz2⟩ := I2.tuple (extN_T eN ht)
    obtain ⟨u7, e7, ru7⟩ := rv2.get h7
    obtain ⟨t7, rfl⟩ := ru7
    exact lam_rank (s := { s2 with heap := h, toks := tk }) (items := its2.toArray) (by show X.A.depth < _; omega) (I2.nolimit.keeps keep) (keep _ _ hf) (hrec.keeps keep) (pl.keeps keep) (by rw [List.size_toArray, ← rv2.length, hlen]) (by simpa using e7)
  · intro out cc h' tk keep fresh hget hlen each
    have e2 : PySem.W.dataLe false (fun y : V => PyData.int (kk y)) = fun a b => decide (kk a ≤ kk b) := PySem.W.dataLe_int kk
    rw [e2] at each
    refine ⟨.ref _, upd H2 (s2.heap.objs.size + 1) (.lst (xs.mergeSort fun a b => decide (kk a ≤ kk b))), I2.laid (t' := tk) keep (Nat.le_succ _) ⟨?_, out, cc, vals_of each, hget⟩, rfl, q H2 _ eN T2 (I2.hok.fresh (Nat.le_succ _))⟩
    rw [List.length_mergeSort]
    exact hz
def dSort7 (f : DF) : DF := fun ρ n Q => f ρ n fun r n1 => ∃ ds, r.dat = some (.list ds) ∧ (∀ d ∈ ds, (rowK d).isSome = true) ∧ Q (.own (ds.mergeSort leR)) n1
theorem pdSort7 {X : Cx} {e : Expr} {f : DF} (h : PE X e (tSortRk X.K Tabz.T (tD f))) : PE X e (tD (dSort7 f)) := h.imp fun σ H Q ⟨c, A, n, ρ, Q', E, hf, k⟩ => by
  refine ⟨c, A, n, ρ, _, E, hf, fun v r n1 H1 ⟨ds, e1, ok, h1⟩ f1 o1 => ?_⟩
  have rp := o1.dat E e1
  have E1 := E.fr f1
  cases rp with
  | @lst a xs _ g1 g2 =>
    obtain ⟨d1, d2⟩ := g2.datOf
    have okx : ∀ y ∈ xs, ∃ pk, rowK (datOf (msk (c.av A) H1) y) = some pk := fun y hy => Option.isSome_iff_exists.mp (ok _ (by rw [d1]; exact List.mem_map.mpr ⟨y, hy, rfl⟩))
    refine ⟨a, xs, fun y => ((rowK (datOf (msk (c.av A) H1) y)).getD (0, 0)).2, rfl, SqL.of (msk_some g1).2, fun y hy => ?_, E1.g.2, fun H2 p eN hT hp => ?_⟩
    · obtain ⟨pk, e2⟩ := okx y hy
      obtain ⟨t, ws, e3, e4, e5, e6, e7⟩ := rowK_parts (d2 y hy) e2
      refine ⟨t, ws, e3, SqT.of (msk_some e4).2, e5, ?_⟩
      show _ = some (V.int ((rowK (datOf (msk (c.av A) H1) y)).getD (0, 0)).2)
      rw [e2]; exact e7
    · obtain ⟨fr, vo⟩ := sort_own E1 (leP := leR) (leV := fun a b => decide (((rowK (datOf (msk (c.av A) H1) a)).getD (0, 0)).2 ≤ ((rowK (datOf (msk (c.av A) H1) b)).getD (0, 0)).2)) g2 (fun a ha b hb => by
        obtain ⟨pa, ea⟩ := okx a ha
        obtain ⟨pb, eb⟩ := okx b hb
        unfold leR
        simp only [ea, eb, Option.getD_some]) eN hT hp
      exact k _ _ n1 _ h1 (f1.trans fr) (VOk.mono E f1 vo)
/-- f(a, k = b): the values in the def's order -/
def tDK (f : DA) : TA := tDA f
theorem _root_.L2.PK.imp {X : Cx} {kws : List Keyword} {t t' : TA} (h : PK X kws t) (i : ∀ σ H Q, t' σ H Q → t σ H Q) : PK X kws t' := ⟨fun pos pins s σ H Q I q => h.run pos pins s σ H Q I (i σ H Q q)⟩
theorem pkNil {X : Cx} : PK X [] (tDA dNil) := pk_nil.imp fun σ H Q ⟨c, A, n, ρ, Q', E, hf, k⟩ => k [] [] n H hf (.refl E.g) .nil
theorem pkCons {X : Cx} {nm : Option Str} {e : Expr} {kws : List Keyword} {kpos : Pos} {f : DF} {g : DA} (ha : PE X e (tD f)) (hr : PK X kws (tDA g)) : PK X (⟨nm, e, kpos⟩ :: kws) (tDA (dCons f g)) := (pk_cons ha hr).imp fun σ H Q ⟨c, A, n, ρ, Q', E, hf, k⟩ => by
  refine ⟨c, A, n, ρ, _, E, hf, fun v x n1 H1 hg f1 o1 => ⟨c, A, n1, ρ, _, E.fr f1, hg, fun vs rs n2 H2 hq f2 o2 => ?_⟩⟩
  exact k (v :: vs) _ n2 H2 hq (f1.trans f2) (.cons ((o1.later E f1 f2).cold E) (cold_cold _) (o2.mono E f1))
theorem VsOk.later {c : EC} {A : Nat → Option Addr} {n m m' : Int} {σ : L2.St} {H H1 H2 : Hp} {ρ : List DV} (E : EnvA c A n σ H ρ) (f : Fr c m' H H1) (f' : Fr c m H1 H2) : ∀ {vs : List V} {rs : List DV}, VsOk c.t (c.av A) H H1 vs rs → VsOk c.t (c.av A) H H2 vs rs
  | _, _, .nil => .nil
  | _, _, .cons h ec t => .cons (h.later E f f') ec (VsOk.later E f f' t)
/-- how keywords lie: g puts the positional ones and the told ones in the def's order, dflt among them -/
def dCallK (m : DM) (gD : List DV → List DV → List DV) (g h : DA) : DF := fun ρ n Q => g ρ n fun rs n1 => h ρ n1 fun ks n2 => plainR (gD rs ks) ∧ m (gD rs ks) n2 Q
def KwOk (gV : List V → List V → List V) (gD : List DV → List DV → List DV) : Prop := ∀ (t : V) (B : Addr → Prop) (H H' : Hp) (vs zs : List V) (rs ks : List DV), VsOk t B H H' vs rs → VsOk t B H H' zs ks → VsOk t B H H' (gV vs zs) (gD rs ks)
theorem callK_le {m : DM} {gV : List V → List V → List V} {gD : List DV → List DV → List DV} {g h : DA} (hk : KwOk gV gD) (E0 : XK) (σ : L2.St) (H : Hp) (Q : VK) (q : tD (dCallK m gD g h) σ H Q) : tCallK (spD m) gV E0 (tDA g) (tDA h) σ H Q := by
  obtain ⟨c, A, n, ρ, Q', E, hf, k⟩ := q
  refine ⟨c, A, n, ρ, _, E, hf, fun vs rs n1 H1 h1 f1 o1 => ⟨c, A, n1, ρ, _, E.fr f1, h1, fun zs ks n2 H2 ⟨pl, hm⟩ f2 o2 => ?_⟩⟩
  have E2 := (E.fr f1).fr f2
  have oa : VsOk c.t (c.av A) H H2 (gV vs zs) (gD rs ks) := hk _ _ _ _ _ _ _ _ (o1.later E f1 f2) (o2.mono E f1)
  refine ⟨E2.ec, n2, gD rs ks, Q', rfl, E2.g, rfl, VsOk.now (m := n2) E oa pl, hm, fun v r n' H' hq f3 o3 => ?_⟩
  exact k v r n' H' hq ((f1.trans f2).trans f3) (VOk.mono E (f1.trans f2) o3)
theorem pdCallK {X : Cx} {CX : CXT} {k : Nat} {f : Addr} {fd : FuncData} {ps ks : List Str} {gW : List Value → List Value → List Value} {gV : List V → List V → List V} {gD : List DV → List DV → List DV} {m : DM} {x : Str} {p pos : Pos} {e : Expr} {es : List Expr} {kws : List Keyword} {g h : DA} {E0 : XK} (hkw : KwOk gV gD) (F : FnOk X.prog X.w X.K X.mg X.base CX k f fd ps (spD m)) (hr : Room k X.A) (hg : Gl X x) (hm : X.mg x = some (.ref f)) (hk : PySem.W.keepIn X.K (.ref f) = true) (hb : KBinds X.K fd ps ks gW gV) (hx : Passes CX X E0)
    (ha : PA X (e :: es) (tDA g)) (hkws : PK X kws (tDA h)) (hall : (backToKw pos (keywordEach kws X.env)).all (·.1.isSome) = true := by rfl) (hks : (backToKw pos (keywordEach kws X.env)).filterMap (·.1) = ks := by rfl)
    (hdb : (x == ("__debug__" : Str)) = false := by decide) (he : starEach (e :: es) X.env = (false, eval e X.env) :: starEach es X.env := by rfl)
    (hpl : ((backTo pos (starEach (e :: es) X.env)).any (·.1) || (backToKw pos (keywordEach kws X.env)).any (·.1.isNone)) = false := by rfl) :
    PE X (.Call (.Name x p) (e :: es) kws pos) (tD (dCallK m gD g h)) := (pe_callK F hr hg hm hk hb hx ha hkws hall hks hdb he hpl).imp (callK_le hkw E0)
end

/-! ### defs that make lambdas -/
section
variable [Fam] [Tabz] {P : Program} {w : World} {K : PySem.W.Frag} {mg : Str → Option Value} {base : Heap}
/-- a def whose code object is known -/
def FunC (K : PySem.W.Frag) (x qual : Str) (st : Stmt) (f c : Addr) (fd : FuncData) : Prop := ∃ (oc : Value) (od : Option Addr) (kV doc pm : Value) (an : Option Addr) (ct : Value) (osl : Array (Option Value)),
  fd = PySem.W.fnOf x qual (defArgs st) (defBody st) (defScope st) .none kV doc pm an (.ref c) ct ∧ K.lookup f = some ⟨oc, od, .func fd, osl⟩ ∧ PySem.W.codeIn K (.ref c) qual = true
theorem FunC.ok {x qual : Str} {st : Stmt} {f c : Addr} {fd : FuncData} {N ps : List Str} {k : Nat} {sp : Sp} (F : FunC K x qual st f c fd) (S : FnScope N ps (defScope st)) (len : ∀ vs H Q E, sp vs H Q E → vs.length = ps.length)
    (hbody : ∀ (A : Around) (outer : List Env) (s : Shared) (H : Hp) (vs : List V) (Q : VK) (E : XK), Room k (A.deeper (PyProof.Rows.envOfC qual (defScope st) s.heap.objs.size f (.ref c))) → sp vs H Q E →
      ∃ t, PSs (cxOf CX0 P w K mg base N qual (defScope st) f (.ref c) A outer s H E).nox (defBody st) t ∧ t { nx := fun _ H' => Q .non H', rt := Q } (start N vs) H) : FnOk P w K mg base CX0 (k + 1) f fd ps sp := by
  obtain ⟨oc, od, kV, doc, pm, an, ct, osl, rfl, lk, hcd⟩ := F
  refine fn_of lk hcd S len fun A outer s H vs Q E hr hsp => ?_
  obtain ⟨t, h, q⟩ := hbody A outer s H vs Q E hr hsp
  exact ⟨t, h.nox, q⟩
theorem FunC.mk {x qual : Str} {st : Stmt} {f c : Addr} {oc : Value} {od an : Option Addr} {osl : Array (Option Value)} {kV doc pm ct : Value} (l : K.lookup f = some ⟨oc, od, .func (PySem.W.fnOf x qual (defArgs st) (defBody st) (defScope st) .none kV doc pm an (.ref c) ct), osl⟩)
    (h : PySem.W.codeIn K (.ref c) qual = true) : FunC K x qual st f c (PySem.W.fnOf x qual (defArgs st) (defBody st) (defScope st) .none kV doc pm an (.ref c) ct) := ⟨oc, od, kV, doc, pm, an, ct, osl, rfl, l, h⟩
theorem okDC {x qual : Str} {st : Stmt} {f cC : Addr} {fd : FuncData} {N ps : List Str} {k : Nat} {F : DS} {m : DM} (Fn : FunC K x qual st f cC fd) (S : FnScope N ps (defScope st)) (len : ∀ rs n Q, m rs n Q → plainR rs ∧ rs.length = ps.length)
    (body : ∀ (A : Around) (outer : List Env) (s : Shared) (H : Hp) (E : XK), Room k (A.deeper (PyProof.Rows.envOfC qual (defScope st) s.heap.objs.size f (.ref cC))) → PSs (cxOf CX0 P w K mg base N qual (defScope st) f (.ref cC) A outer s H E).nox (defBody st) (sD F))
    (data : ∀ rs n Q, m rs n Q → F { nx := fun _ n => Q (.d .none) n, rt := Q } (rs ++ List.replicate (N.length - rs.length) .un) n) : FnOk P w K mg base CX0 (k + 1) f fd ps (spD m) := by
  refine Fn.ok S (fun vs H Q E ⟨c, n, rs, Q', h0, g, pn, ok, hm, _⟩ => ?_) (fun A outer s H vs Q E hr ⟨c, n, rs, Q', h0, g, pn, ok, hm, kk⟩ => ⟨_, body A outer s H E hr, c, fun _ => none, n, _, { nx := fun _ n => Q' (.d .none) n, rt := Q' }, ?_, data rs n Q' hm, ?_⟩)
  · rw [ok.length]
    exact (len _ _ _ hm).2
  · subst h0
    have av : ∀ {b : Addr}, c.av (fun _ => none) b → c.B b := fun {b} z => z.elim id fun ⟨i, e⟩ => by cases e
    have xt : Xt (msk c.B c.H0) (msk (c.av fun _ => none) c.H0) := fun b o _ e => by
      obtain ⟨h1, h2⟩ := msk_some e
      rw [msk_out fun z => h1 (av z)]
      exact h2
    refine ⟨fun b o _ _ e => e, g, fun i a e => (by cases e), fun i a e => (by cases e), fun i j a e => (by cases e), fun i y e => ?_, ?_, fun p hp => (by rw [pn] at hp; cases hp), ⟨0, fun _ _ => rfl⟩, fun i a y e => (by cases e)⟩
    · by_cases hi : i < rs.length
      · rw [List.getElem?_append_left hi] at e
        obtain ⟨v, h1, h2, h3⟩ := ok.get e
        have hs : (L2.start N vs)[i]? = some (some v) := by
          unfold L2.start
          rw [List.getElem?_append_left (by rw [List.length_map, ok.length]; exact hi), List.getElem?_map, h1]
          rfl
        rw [hs]
        cases y with
        | un => exact h2.elim
        | raw v => exact h2.elim
        | tape => 
          refine ⟨?_, h2.2⟩
          rw [show v = c.t from h2.1]
        | d z => exact ⟨v, rfl, Rp.ex h2 xt⟩
        | own ds => cases h3
        | dic kvs => 
          rcases (len _ _ _ hm).1 _ (List.mem_of_getElem? e) with ⟨d, q⟩ | q <;> cases q
      · rw [List.getElem?_append_right (by omega), List.getElem?_replicate] at e
        split at e
        · cases e
          exact True.intro
        · cases e
    · unfold L2.start
      rw [List.length_append, List.length_append, List.length_map, List.length_replicate, List.length_replicate, ok.length]
  · subst h0
    refine ⟨fun A n σ H' ρ h e => ?_, fun v r n H' h fr o => kk v r n H' h fr o, fun A n σ H ρ h e => h.elim, fun A n σ H ρ h e => h.elim⟩
    exact kk .non _ n H' h e.fr0 Rp.non
end

/-! ### data readings: what laws have in common -/
section
variable [Fam] [Tabz]
inductive Cnd (p : Prop) : Prop
  | mk (a b : True) (h : p) : Cnd p
theorem cnd {p : Prop} (h : p) : Cnd p := ⟨True.intro, True.intro, h⟩
theorem Cnd.get {p : Prop} (c : Cnd p) : p := by
  obtain ⟨_, _, h⟩ := c
  exact h
theorem tapeR {rs : List DV} {ds : List PyData} (h : tapeOf rs = some ds) : plainR rs ∧ rs.length = ds.length + 1 := by
  cases rs with
  | nil => cases h
  | cons r rs =>
    cases r <;> first | cases h; done | skip
    have e' : plainOf rs = some ds := h
    obtain ⟨h1, h2⟩ := plainOf_R e'
    refine ⟨fun r hr => ?_, by show rs.length + 1 = _; rw [h2]⟩
    rcases List.mem_cons.mp hr with z | z
    · exact .inr z
    · exact h1 r z
theorem rp_strs {M : Hp} : ∀ ns : List Str, RpA M (ns.map V.str) (ns.map PyData.str)
  | [] => .nil
  | n :: ns => .cons (.str n) (rp_strs ns)
theorem ixMem {xs : List PyData} {i : Int} (h0 : 0 ≤ i) (h : i < xs.length) : ∃ d ∈ xs, opIxL (.list xs) (.int i) = some (.d d) := by
  obtain ⟨j, rfl⟩ := Int.eq_ofNat_of_zero_le h0
  have hj : j < xs.length := by omega
  refine ⟨xs[j], List.getElem_mem hj, ?_⟩
  show (atI xs (j : Int)).map DV.d = _
  rw [atI_nat (v := xs[j]) (List.getElem?_eq_getElem hj)]
  rfl
theorem ix4 {a b c d : PyData} {w : Int} (h0 : 0 ≤ w) (h : w < 4) : opIxL (.list [a, b, c, d]) (.int w) = some (.d a) ∨ opIxL (.list [a, b, c, d]) (.int w) = some (.d b) ∨ opIxL (.list [a, b, c, d]) (.int w) = some (.d c) ∨ opIxL (.list [a, b, c, d]) (.int w) = some (.d d) := by
  have e : w = 0 ∨ w = 1 ∨ w = 2 ∨ w = 3 := by omega
  rcases e with e | e | e | e <;> subst e
  · exact .inl rfl
  · exact .inr (.inl rfl)
  · exact .inr (.inr (.inl rfl))
  · exact .inr (.inr (.inr rfl))
theorem ix3 {a b c : PyData} {w : Int} (h0 : 0 ≤ w) (h : w < 3) : opIxL (.list [a, b, c]) (.int w) = some (.d a) ∨ opIxL (.list [a, b, c]) (.int w) = some (.d b) ∨ opIxL (.list [a, b, c]) (.int w) = some (.d c) := by
  have e : w = 0 ∨ w = 1 ∨ w = 2 := by omega
  rcases e with e | e | e <;> subst e
  · exact .inl rfl
  · exact .inr (.inl rfl)
  · exact .inr (.inr rfl)
theorem ix2 {a b : PyData} {w : Int} (h0 : 0 ≤ w) (h : w < 2) : opIxL (.list [a, b]) (.int w) = some (.d a) ∨ opIxL (.list [a, b]) (.int w) = some (.d b) := by
  have e : w = 0 ∨ w = 1 := by omega
  rcases e with e | e <;> subst e
  · exact .inl rfl
  · exact .inr rfl
theorem ixS {ns : List Str} {r : Int} (h0 : 0 ≤ r) (h : r < ns.length) : ∃ s ∈ ns, opIxL (.list (ns.map PyData.str)) (.int r) = some (.d (.str s)) := by
  obtain ⟨j, rfl⟩ := Int.eq_ofNat_of_zero_le h0
  have hj : j < ns.length := by omega
  refine ⟨ns[j], List.getElem_mem hj, ?_⟩
  show (atI (ns.map PyData.str) (j : Int)).map DV.d = _
  rw [atI_nat (v := .str ns[j]) (by rw [List.getElem?_map, List.getElem?_eq_getElem hj]; rfl)]
  rfl
def bInt : List PyData → Option DV
  | [.int i] => some (.d (.int i))
  | [.bool true] => some (.d (.int 1))
  | [.bool false] => some (.d (.int 0))
  | _ => none
theorem rsInt : RsD (fun xs H Q => (∃ i, xs = [.int i] ∧ Q (.int i) H) ∨ ∃ k, xs = [.bl k] ∧ Q (.int (if k then 1 else 0)) H) bInt := by
  intro t B H vs as z Q _ r e k
  cases r with
  | nil => cases e
  | cons r t =>
    cases t with
    | cons _ _ =>
      cases r with
      | bl b => cases b <;> cases e
      | _ => cases e
    | nil =>
      cases r with
      | bl b =>
        cases b with
        | true => cases e; exact .inr ⟨_, rfl, k _ H (fun _ _ h => h) (Rp.int _)⟩
        | false => cases e; exact .inr ⟨_, rfl, k _ H (fun _ _ h => h) (Rp.int _)⟩
      | int i => cases e; exact .inl ⟨_, rfl, k _ H (fun _ _ h => h) (Rp.int _)⟩
      | _ => cases e
theorem bInt_dec (p : Prop) [Decidable p] : bInt [.bool (decide p)] = some (.d (.int (if p then 1 else 0))) := by
  by_cases h : p
  · rw [decide_eq_true h, if_pos h]
    rfl
  · rw [decide_eq_false h, if_neg h]
    rfl
/-- a rule or another one -/
theorem callR_or {X : Cx} {f : Value} {r q : List V → Hp → VK → Prop} (h1 : CallR X f r) (h2 : CallR X f q) : CallR X f (fun xs H Q => r xs H Q ∨ q xs H Q) := by
  intro pins s σ H xs us Q I rv h
  rcases h with h | h
  · exact h1 pins s σ H xs us Q I rv h
  · exact h2 pins s σ H xs us Q I rv h
/-- str of an int, of a text -/
def bStr : List PyData → Option DV
  | [.int i] => if i.natAbs.log2 < 1920 then some (.d (.str (Str.ofString (toString i)))) else none
  | [.str a] => some (.d (.str a))
  | _ => none
theorem rsStr : RsD (fun xs H Q => (∃ i, xs = [.int i] ∧ i.natAbs.log2 < 1920 ∧ Q (.str (Str.ofString (toString i))) H) ∨ ∃ a, xs = [.str a] ∧ Q (.str a) H) bStr := by
  intro t B H vs as z Q _ r e k
  cases r with
  | nil => cases e
  | cons r t =>
    cases t with
    | cons _ _ => cases r <;> cases e
    | nil =>
      cases r with
      | int i =>
        have e' : (if i.natAbs.log2 < 1920 then some (DV.d (PyData.str (Str.ofString (toString i)))) else none) = some z := e
        clear e
        split at e'
        · cases e'
          exact .inl ⟨_, rfl, by assumption, k _ H (fun _ _ h => h) (Rp.str _)⟩
        · cases e'
      | str a => cases e; exact .inr ⟨_, rfl, k _ H (fun _ _ h => h) (Rp.str _)⟩
      | _ => cases e
theorem call_strA {X : Cx} : CallR X (.type "str") (fun xs H Q => (∃ i, xs = [.int i] ∧ i.natAbs.log2 < 1920 ∧ Q (.str (Str.ofString (toString i))) H) ∨ ∃ a, xs = [.str a] ∧ Q (.str a) H) := callR_or call_str_int SkE.call_str_str
/-- the texts of a list -/
def strsOf : List PyData → Option (List Str)
  | [] => some []
  | .str i :: ds => (strsOf ds).map (i :: ·)
  | _ => none
theorem strsOf_map : ∀ ys : List Str, strsOf (ys.map PyData.str) = some ys
  | [] => rfl
  | y :: ys => by
    show (strsOf (ys.map PyData.str)).map (y :: ·) = _
    rw [strsOf_map ys]
    rfl
theorem strs_of {M : Hp} : ∀ {vs : List V} {ds : List PyData} {ns : List Str}, RpA M vs ds → strsOf ds = some ns → vs = ns.map V.str
  | _, _, _, .nil, e => by cases e; rfl
  | _, _, ns, .cons r t, e => by
    cases r <;> simp only [strsOf, reduceCtorEq] at e
    cases q : strsOf _ with
    | none => rw [q] at e; cases e
    | some ms =>
      rw [q] at e
      cases e
      rw [strs_of t q]
      rfl
def joinSize (a : Str) (ys : List Str) : Prop := (ys.map (·.length)).sum + ys.length * a.length ≤ 16777216
def dJoin (f g : DF) : DF := fun ρ n Q => f ρ n fun x n1 => ∃ a, x = .d (.str a) ∧ g ρ n1 fun y n2 => ∃ ds, y.dat = some (.list ds) ∧ ∃ ys, strsOf ds = some ys ∧ Cnd (joinSize a ys) ∧ Q (.d (.str (Txt.join a ys))) n2
theorem pdJoin {X : Cx} {e : Expr} {to te : TE} {f g : DF} (h : PE X e (tM1 (fun x xs H Q => ∃ a p, ∃ ys : List Str, x = .str a ∧ xs = [.ref p] ∧ (SqL X.K H p (ys.map V.str) ∨ SqT X.K H p (ys.map V.str)) ∧ (ys.map (·.length)).sum + ys.length * a.length ≤ 16777216 ∧ Q (.str (Txt.join a ys)) H) to te)) (ho : ∀ σ H Q, tD f σ H Q → to σ H Q) (he : ∀ σ H Q, tD g σ H Q → te σ H Q) : PE X e (tD (dJoin f g)) := h.imp fun σ H Q ⟨c, A, n, ρ, Q', E, hf, k⟩ => by
  refine ho _ _ _ ⟨c, A, n, ρ, _, E, hf, fun v x n1 H1 ⟨a, ex, hg⟩ f1 o1 => ?_⟩
  subst ex
  cases o1
  refine ⟨⟨a, rfl⟩, he _ _ _ ⟨c, A, n1, ρ, _, E.fr f1, hg, fun w y n2 H2 ⟨ds, ed, ys, es, hs, hq⟩ f2 o2 => ?_⟩⟩
  have rp := o2.dat (E.fr f1) ed
  cases rp with
  | @lst p xs _ h1 h2 =>
    have ex := strs_of h2 es
    subst ex
    exact ⟨a, p, ys, rfl, rfl, .inl (SqL.of (msk_some h1).2), hs.get, k _ _ n2 H2 hq (f1.trans f2) (Rp.str _)⟩
/-- isinstance(e, T), T a built-in class -/
def tyD : PyData → String
  | .none => "NoneType"
  | .bool _ => "bool"
  | .int _ => "int"
  | .str _ => "str"
  | .list _ => "list"
  | .tuple _ => "tuple"
  | .dict _ => "dict"
def isiB (T : String) (d : PyData) : Bool := match T, d with
  | "int", .bool _ => true
  | "int", .int _ => true
  | "bool", .bool _ => true
  | "str", .str _ => true
  | "list", .list _ => true
  | "tuple", .tuple _ => true
  | _, _ => false
theorem kit_int (a : String) (h : a ∈ ["NoneType", "bool", "int", "str", "list", "tuple"]) : kitB a "int" = some (a == "int" || a == "bool") ∧ kitB a "bool" = some (a == "bool") ∧ kitB a "str" = some (a == "str") ∧ kitB a "list" = some (a == "list") ∧ kitB a "tuple" = some (a == "tuple") := by
  simp only [List.mem_cons, List.not_mem_nil, or_false] at h
  rcases h with rfl | rfl | rfl | rfl | rfl | rfl <;> decide +kernel
def isiOk (T : String) : Prop := T = "int" ∨ T = "bool" ∨ T = "str" ∨ T = "list" ∨ T = "tuple"
theorem kit_d {K : PySem.W.Frag} {T : String} (hT : isiOk T) {d : PyData} (hd : ∀ kvs, d ≠ .dict kvs) : PySem.W.kitOne K (.type (tyD d)) (.type T) = some (isiB T d) := by
  cases d with
  | dict kvs => exact absurd rfl (hd kvs)
  | none => obtain ⟨h1, h2, h3, h4, h5⟩ := kit_int "NoneType" (by decide); rcases hT with e | e | e | e | e <;> subst e <;> exact kit_ty (by assumption)
  | bool b => obtain ⟨h1, h2, h3, h4, h5⟩ := kit_int "bool" (by decide); rcases hT with e | e | e | e | e <;> subst e <;> exact kit_ty (by assumption)
  | int i => obtain ⟨h1, h2, h3, h4, h5⟩ := kit_int "int" (by decide); rcases hT with e | e | e | e | e <;> subst e <;> exact kit_ty (by assumption)
  | str s => obtain ⟨h1, h2, h3, h4, h5⟩ := kit_int "str" (by decide); rcases hT with e | e | e | e | e <;> subst e <;> exact kit_ty (by assumption)
  | list xs => obtain ⟨h1, h2, h3, h4, h5⟩ := kit_int "list" (by decide); rcases hT with e | e | e | e | e <;> subst e <;> exact kit_ty (by assumption)
  | tuple xs => obtain ⟨h1, h2, h3, h4, h5⟩ := kit_int "tuple" (by decide); rcases hT with e | e | e | e | e <;> subst e <;> exact kit_ty (by assumption)
theorem rp_ty {K : PySem.W.Frag} {M H : Hp} {v : V} {d : PyData} (r : Rp M v d) (m : ∀ b o, M b = some o → H b = some o) : TyX K H v (.type (tyD d)) ∧ ∀ kvs, d ≠ .dict kvs := by
  cases r with
  | non => exact ⟨.base .non, fun _ z => by cases z⟩
  | bl b => exact ⟨.base (.bl b), fun _ z => by cases z⟩
  | int i => exact ⟨.base (.int i), fun _ z => by cases z⟩
  | str s => exact ⟨.base (.str s), fun _ z => by cases z⟩
  | lst h _ => exact ⟨.base (.lst (m _ _ h)), fun _ z => by cases z⟩
  | tup h _ => exact ⟨.base (.tup (m _ _ h)), fun _ z => by cases z⟩
def dIsi (T : String) (f : DF) : DF := fun ρ n Q => f ρ n fun r n1 => ∃ d, r.dat = some d ∧ Q (.d (.bool (isiB T d))) n1
theorem pdIsi {X : Cx} {c e : Expr} {p pos : Pos} {T : String} {f : DF} (hT : isiOk T) (hm : X.mg "isinstance" = none) (hg : Gl X "isinstance") (hc : PE X c (tC (.ty T))) (he : PE X e (tD f))
    (hs : starEach (e :: [c]) X.env = (false, eval e X.env) :: starEach [c] X.env := by rfl) (hpl : (backTo pos (starEach [c] X.env)).any (·.1) = false := by rfl) (hs2 : starEach [c] X.env = (false, eval c X.env) :: starEach [] X.env := by rfl) :
    PE X (.Call (.Name "isinstance" p) [e, c] [] pos) (tD (dIsi T f)) := (pe_callB call_isi hg hm (by decide +kernel) (pa_cons he (pa_cons hc pa_nil hs2) hs) (by decide) (by decide) hs hpl).imp fun σ H Q ⟨c, A, n, ρ, Q', E, hf, k⟩ => by
  refine ⟨c, A, n, ρ, _, E, hf, fun v r n1 H1 ⟨d, ed, hq⟩ f1 o1 => ?_⟩
  have rp := o1.dat E ed
  obtain ⟨ty, nd⟩ := rp_ty (K := X.K) (H := H1) rp fun b o h => (msk_some h).2
  exact ⟨v, .ty T, _, _, _, rfl, .ty T, ty, kit_d hT nd, k _ _ n1 H1 hq f1 (Rp.bl _)⟩
/-- a statement, then the rest from a word between them -/
def dCut (F G : DS) : DS := fun E ρ n => ∃ Mid : List DV → Int → Prop, F { E with nx := Mid } ρ n ∧ ∀ ρ n, Mid ρ n → G E ρ n
theorem psCut {X : Cx} {st : Stmt} {rest : List Stmt} {F G : DS} (h : PS X st (sD F)) (h2 : PSs X rest (sD G)) : PSs X (st :: rest) (sD (dCut F G)) := (pss_cons h h2).imp fun D σ H ⟨c, A, n, ρ, E, e, ⟨Mid, hF, hG⟩, L⟩ =>
  ⟨c, A, n, ρ, _, e, hF, fun A n σ H ρ h e' => ⟨c, A, n, ρ, E, e', hG ρ n h, L⟩, L.rt, L.bk, L.ct⟩
theorem mul_big {a b : Int} (ha : a.natAbs < 2 ^ 400) (hb : b.natAbs < 2 ^ 400) : CMulW a b := wide_mul (a := 400) (b := 400) ha hb (by decide) (by decide) (by decide)
end

/-! ### set(xs), sorted(set(xs)), xs a list of ints -/
section
open PySem.Spec PyProof.Rows
variable {P : Program} {w : World} {A : Around} {E : Value → Shared → Prop} {s : Shared}
def nSet (w : World) : Obj := { cls := .type "set", dict := none, data := .set #[] 0 (.fresh 0 0 (!w.params.followText "set-order")) }
def sPush (w : World) (s : Shared) : Heap := s.heap.push (nSet w)
/-- what a new set of these ints leaves -/
def SetMade (w : World) (s : Shared) (ns : List Int) (s2 : Shared) : Prop := ∃ h2 t2 c, s2 = { s with heap := h2, toks := t2 } ∧ SetR w h2 s.heap.objs.size (fun j => decide (j ∈ ns)) c ∧ c ≤ ns.length ∧ ∀ b o, s.heap.get? b = some o → h2.get? b = some o
set_option maxRecDepth 100000 in
set_option maxHeartbeats 3200000 in
theorem call_set_ints {l : Addr} {us : Array Value} {ns : List Int} {Q : Value → Shared → Prop} (hA : A.handled = none) (hl : s.heap.IsList l us) (hu : IntsAre us.toList ns) (few : ns.length + 1 < scanBound)
    (k : ∀ s2, SetMade w s ns s2 → Q (.ref s.heap.objs.size) s2) : wpAny (model P w) A (call (.type "set") [.ref l]) Q E s := by
  have size_us : us.size = ns.length := by
    have z := IntsAre.length hu
    rwa [Array.length_toList] at z
  obtain ⟨mc, mt, hmro⟩ := F.called_set.mro
  have made := F.called_set.made
  have sub := F.called_set.sub
  have noT := F.called_set.notType
  have can := F.called_set.canCreate
  have tc := F.typeCall_set_1 (.ref l)
  refine wpAny_call (codeAny_of_tree ?_)
  show wpAny _ _ (callAny (.type "set") _) _ _ _
  refine wpAny_pure ⟨Code.quiet_builtin _ (by decide +kernel), codeAny_builtin F.entry_type_call ?_⟩
  rw [Around.under_plain (weight_type_call_type "set" [.ref l] []) rfl]
  repeat (any_goals (first | assumption | wp_step))
  refine codeAny_mono (code_set_led1 (.ref l) (E := E) (Q₁ := fun z s1 => z = .ref s.heap.objs.size ∧ s1 = { s with heap := sPush w s }) ⟨rfl, rfl⟩) fun r s1 hr => ?_
  cases r with
  | error e => exact hr
  | ok fl =>
    cases fl with
    | ret z =>
      obtain ⟨rfl, rfl⟩ := hr
      have at0 : (sPush w s).get? s.heap.objs.size = some (nSet w) := Heap.get?_push_size _ rfl
      have ty0 : Shared.TypeIs { s with heap := sPush w s } (.ref s.heap.objs.size) "set" := ⟨_, at0, rfl⟩
      have look := F.called_set.init.lookup
      have bind := F.called_set.init.bind (.ref s.heap.objs.size)
      repeat (any_goals (first | assumption | wp_step))
      refine codeAny_mono (codeAny_call_builtin (R := wants (fun r s2 => r = .none ∧ SetMade w s ns s2) E) F.called_set.init.plain F.entry_set_init (check_set_init_1 ty0 ?_)) fun r2 s2 hr2 => ?_
      · obtain ⟨ol, hol, hcl, nl, hdl⟩ := hl
        obtain ⟨ocls, odict, odata, oslots⟩ := ol
        simp only at hcl hdl
        subst hcl
        subst hdl
        have there := fun {b : Addr} {o : Obj} (e : s.heap.get? b = some o) => (Heap.get?_push_of_some (nSet w) e : (sPush w s).get? b = some o)
        have low : l < s.heap.objs.size := Heap.lt_size hol
        have big : (sPush w s).objs.size = s.heap.objs.size + 1 := Heap.size_push ..
        have lst1 : (sPush w s).IsList l us := ⟨_, there hol, rfl, nl, rfl⟩
        have sub1 := F.sub_list_set
        have sub2 := F.sub_list_frozenset
        have nd : (Value.type "list" == Value.type "dict") = false := by decide
        have thl := there hol
        unfold Builtin.«set.__init__» noKeywords Builtin.Frozenset.updateFrom
        generalize hPI : pyIter = PI
        wp_walk
        subst hPI
        refine wpAny_pyIter_list lst1 ?_
        refine wpAny_bind (wpAny_runValue ?_)
        have hA3 : A.in1.in1.in1.handled = none := by simp [hA]
        have ne1 : l ≠ (sPush w s).objs.size := by rw [big]; exact Nat.ne_of_lt (Nat.lt_succ_of_lt low)
        have ne2 : s.heap.objs.size ∉ [(sPush w s).objs.size, l] := by
          rw [big]
          simp only [List.mem_cons, List.not_mem_nil, or_false, not_or]
          exact ⟨Nat.ne_of_lt (Nat.lt_succ_self _), Nat.ne_of_gt low⟩
        have vals : ∀ (i : Nat) (v : Value), us[i]? = some v → ∃ k t, ns[i]? = some k ∧ v = .int k t := fun i v hv => by
          have hi : i < ns.length := by
            have := (Array.getElem?_eq_some_iff.mp hv).1
            omega
          obtain ⟨t, e⟩ := IntsAre.int_at hu i v (by rw [Array.getElem?_toList]; exact hv)
          exact ⟨ns[i], t, List.getElem?_eq_getElem hi, by rw [e, List.getD_eq_getElem?_getD, List.getElem?_eq_getElem hi]; rfl⟩
        refine set_update_ints ((Walks.list hA3 _ l ne1 us).toS) s.heap.objs.size ne2 ns size_us few vals (us.size - 0) 0 _ (by omega) (Nat.zero_le _) ⟨⟨_, Heap.get?_push_size _ rfl, rfl, rfl⟩, (lst1.push _)⟩ ?start ?after
        case start => exact ⟨0, Nat.le_refl 0, setR_new_at (Heap.get?_push_of_some _ at0)⟩
        case after =>
          intro s3 c mv hc3 hS3
          obtain ⟨h3, g3, d3, t3, o3⟩ := s3
          cases (mv.gens : g3 = s.gens)
          cases (mv.drawn : d3 = s.drawn)
          cases (mv.os : o3 = s.os)
          refine wpAny_pure ?_
          show wpAny _ _ (ret Value.none) _ _ _
          refine wpAny_pure ⟨rfl, h3, t3, c, rfl, hS3, by rw [size_us] at hc3; exact hc3, fun b o e => ?_⟩
          have hb := Heap.lt_size e
          refine mv.heap b o ?_ (Heap.get?_push_of_some _ (there e))
          simp only [List.mem_cons, List.not_mem_nil, or_false, not_or]
          exact ⟨Nat.ne_of_lt hb, by show b ≠ (sPush w s).objs.size; rw [big]; exact Nat.ne_of_lt (Nat.lt_succ_of_lt hb)⟩
      · cases r2 with
        | error e => exact hr2
        | ok fl2 =>
          cases fl2 with
          | ret r =>
            obtain ⟨rfl, hm⟩ := hr2
            have hm2 := hm
            obtain ⟨h2, t2, c, rfl, _⟩ := hm2
            repeat (any_goals (first | assumption | wp_step))
            exact k _ hm
          | _ => exact hr2.elim
    | _ => exact hr.elim
end
section
variable [Fam] [Tabz]
def rSetI (K : PySem.W.Frag) (w : World) : List V → Hp → VK → Prop := fun xs H Q => ∃ (l : Addr) (ns : List Int), xs = [.ref l] ∧ SqL K H l (ns.map V.int) ∧ ns.length ≤ 1000 ∧ ∀ p c, H p = none → c ≤ ns.length → Q (.ref p) (upd H p (SetO w p (fun j => decide (j ∈ ns)) c))
theorem cr_setI {X : Cx} (hc : X.calm = true) : CallR X (.type "set") (rSetI X.K X.w) := by
  intro pins s σ H xs us Q I r h
  obtain ⟨l, ns, rfl, hl, few, q⟩ := h
  rw [Vals.ref1 r]
  obtain ⟨its, rv, pl, hz⟩ := I.list hl
  have iu : PyProof.Rows.IntsAre its.toArray.toList ns := ints_of_vals rv
  refine call_set_ints (I.ok.hd hc) pl.isList iu (by unfold scanBound; omega) fun s2 ⟨h2, t2, c, e, R, hc2, kp⟩ => ?_
  subst e
  exact ⟨.ref s.heap.objs.size, upd H s.heap.objs.size (SetO X.w s.heap.objs.size (fun j => decide (j ∈ ns)) c), I.laid (t' := t2) kp (Nat.le_refl _) (setO_new R), rfl, q _ c (I.hok.fresh (Nat.le_refl _)) hc2⟩
/-- sorted(set(xs)) -/
def dSortSet (f : DF) : DF := fun ρ n Q => f ρ n fun r n1 => ∃ ds, r.dat = some (.list ds) ∧ ∃ ns, intsOf ds = some ns ∧ Cnd (ns.length < 64) ∧ ∀ out : List Int, out.Pairwise (· < ·) → (∀ k, k ∈ out ↔ k ∈ ns) → Q (.own (out.map PyData.int)) n1
theorem rp_intsS {M : Hp} : ∀ ns : List Int, RpA M (ns.map V.int) (ns.map PyData.int)
  | [] => .nil
  | n :: ns => .cons (.int n) (rp_intsS ns)
theorem pdSortSet {X : Cx} {e : Expr} {f : DF} {w : World} (h : PE X e (tCB (rSortedSet w) (tCons (tCB (rSetI X.K w) (tCons (tD f) tNil)) tNil))) : PE X e (tD (dSortSet f)) := h.imp fun σ H Q ⟨c, A, n, ρ, Q', E, hf, k⟩ => by
  refine ⟨c, A, n, ρ, _, E, hf, fun v r n1 H1 ⟨ds, ed, ns, en, cc, hq⟩ f1 o1 => ?_⟩
  have rp := o1.dat E ed
  have E1 := E.fr f1
  have few := cc.get
  cases rp with
  | @lst l xs _ h1 h2 =>
    have ex := ints_of h2 en
    subst ex
    refine ⟨l, ns, rfl, SqL.of (msk_some h1).2, by omega, fun p m np hm => ?_⟩
    refine ⟨p, _, m, rfl, upd_same, by omega, fun out q so mo _ nq => ?_⟩
    have f2 : Fr c n1 H1 (upd H1 p (SetO w p (fun j => decide (j ∈ ns)) m)) := Fr.new E1.g np
    have E2 := E1.fr f2
    have f3 : Fr c n1 (upd H1 p (SetO w p (fun j => decide (j ∈ ns)) m)) (upd (upd H1 p (SetO w p (fun j => decide (j ∈ ns)) m)) q (.lst (out.map V.int))) := Fr.new E2.g nq
    refine k _ _ n1 _ (hq out so fun x => ?_) ((f1.trans f2).trans f3) (VOk.mono E (f1.trans f2) (own_new E2 nq (rp_intsS out)))
    rw [mo x]
    exact decide_eq_true_iff
/-- sorted(xs), xs ints -/
def dSortI (f : DF) : DF := fun ρ n Q => f ρ n fun r n1 => ∃ ds, r.dat = some (.list ds) ∧ ∃ ns, intsOf ds = some ns ∧ ∀ out : List Int, out.Perm ns → out.Pairwise (· ≤ ·) → Q (.own (out.map PyData.int)) n1
theorem pdSortI {X : Cx} {e : Expr} {f : DF} (h : PE X e (tCB (rSortedI X.K) (tCons (tD f) tNil))) : PE X e (tD (dSortI f)) := h.imp fun σ H Q ⟨c, A, n, ρ, Q', E, hf, k⟩ => by
  refine ⟨c, A, n, ρ, _, E, hf, fun v r n1 H1 ⟨ds, ed, ns, en, hq⟩ f1 o1 => ?_⟩
  have rp := o1.dat E ed
  have E1 := E.fr f1
  cases rp with
  | @lst l xs _ h1 h2 =>
    have ex := ints_of h2 en
    subst ex
    exact ⟨l, ns, rfl, SqL.of (msk_some h1).2, fun out p pm so np => k _ _ n1 _ (hq out pm so) (f1.trans (Fr.new E1.g np)) (VOk.mono E f1 (own_new E1 np (rp_intsS out)))⟩
end

/-! ### data readings: looks at one's own in tests; pop within an expression -/
section
variable [Fam] [Tabz]
def dPkT (t : DT) : DT := fun ρ n Q => t (coldD ρ) n Q
theorem ptPk {X : Cx} {e : Expr} {t : DT} (h : PT X e (tDT t)) : PT X e (tDT (dPkT t)) := h.imp fun σ H Q ⟨c, A, n, ρ, Q', E, hf, k⟩ => by
  obtain ⟨A', E'⟩ := E.colds
  exact ⟨c, A', n, _, _, E', hf, k⟩
/-- an expression that changes one's own: what is told is data -/
abbrev DX := List DV → Int → (PyData → List DV → Int → Prop) → Prop
def tX (f : DX) : TE := fun σ H Q => ∃ (c : EC) (A : Nat → Option Addr) (n : Int) (ρ : List DV) (Q' : PyData → List DV → Int → Prop), EnvA c A n σ H ρ ∧ f ρ n Q' ∧
  ∀ v x ρ' n' H', Q' x ρ' n' → EnvA c A n' σ H' ρ' → Rp (msk (c.av A) H') v x → Xt (msk (c.av A) H) (msk (c.av A) H') → Q v H'
/-- xs.pop() -/
def xPop (i : Nat) : DX := fun ρ n Q => ∃ ds d, ρ[i]? = some (.own (ds ++ [d])) ∧ Q d (ρ.set i (.own ds)) n
theorem msk_upd {B : Addr → Prop} {H : Hp} {a : Addr} {o : HO} (h : B a) : msk B (upd H a o) = msk B H := by
  funext b
  by_cases z : B b
  · unfold msk
    rw [if_pos z, if_pos z]
  · rw [msk_out z, msk_out z, upd_ne (fun e => z (by rw [e]; exact h))]
theorem RpA.split {M : Hp} : ∀ {vs : List V} {ds : List PyData} {d : PyData}, RpA M vs (ds ++ [d]) → ∃ ws w, vs = ws ++ [w] ∧ RpA M ws ds ∧ Rp M w d
  | _, [], d, h => by
    cases h with
    | cons r t =>
      cases t
      exact ⟨[], _, rfl, .nil, r⟩
  | _, e :: ds, d, h => by
    cases h with
    | cons r t =>
      obtain ⟨ws, w, e1, h1, h2⟩ := RpA.split t
      exact ⟨_ :: ws, w, by rw [e1]; rfl, .cons r h1, h2⟩
theorem pxPop {X : Cx} {i : Nat} {e : Expr} (h : PE X e (tBM0 X.K "list" rPop (tVar i))) : PE X e (tX (xPop i)) := h.imp fun σ H Q ⟨c, A, n, ρ, Q', E, ⟨ds, d, e1, hq⟩, k⟩ => by
  obtain ⟨a, vs, h1, h2, h3, h4⟩ := E.slot i _ e1
  obtain ⟨ws, w, e2, r1, r2⟩ := h4.split
  subst e2
  refine ⟨_, h2, .inl ⟨rfl, _, SqL.of h3⟩, a, _, w, rfl, rfl, h3, by simp, ?_⟩
  have av : c.av A a := .inr ⟨i, h1⟩
  have dl : (ws ++ [w]).dropLast = ws := by simp
  rw [dl]
  refine k w d _ n _ hq (E.mut h1 h3 (.inl ⟨_, rfl⟩) (fun ps z => by cases z) ⟨a, ws, h1, h2, upd_same, r1⟩ fun _ => rfl) ?_ ?_
  · rw [msk_upd av]
    exact r2
  · rw [msk_upd av]
    exact fun b o _ z => z
def xIx (op : PyData → PyData → Option DV) (f : DX) (g : DF) : DX := fun ρ n Q => f ρ n fun x ρ1 n1 => g ρ1 n1 fun y n2 => ∃ b, y.dat = some b ∧ ∃ z, op x b = some (.d z) ∧ Q z ρ1 n2
theorem pxIx {X : Cx} {r : R2} {op : PyData → PyData → Option DV} {a b : Expr} {f : DX} {g : DF} {pos : Pos} (hd : R2D r op) (hr : IxR X r) (ha : PE X a (tX f)) (hb : PE X b (tD g)) (hs : PlainIx b) : PE X (.Subscript a b pos) (tX (xIx op f g)) := (pe_ix hr ha hb hs).imp fun σ H Q ⟨c, A, n, ρ, Q', E, hf, k⟩ => by
  refine ⟨c, A, n, ρ, _, E, hf, fun v x ρ1 n1 H1 hg E1 rv s1 => ⟨c, A, n1, ρ1, _, E1, hg, fun w y n2 H2 ⟨bd, eb, z, ez, hq⟩ f2 o2 => ?_⟩⟩
  have E2 := E1.fr f2
  refine hd c.t (c.av A) H2 v w x bd (.d z) Q (fun b hb => (E2.there hb).imp fun o h => h.1) (rv.ex f2.msk) (o2.dat E1 eb) ez fun u H3 s3 o3 => ?_
  have f3 : Fr c n2 H2 H3 := Fr.same E2.g s3
  exact k u z ρ1 n2 H3 hq (E2.fr f3) o3 fun b o nt h => f3.msk b o nt (f2.msk b o nt (s1 b o nt h))
def xOp (op : PyData → PyData → Option DV) (f : DF) (g : DX) : DX := fun ρ n Q => f ρ n fun x n1 => ∃ a, x.dat = some a ∧ g ρ n1 fun b ρ2 n2 => ∃ z, op a b = some (.d z) ∧ Q z ρ2 n2
theorem pxOp {X : Cx} {o : Operator} {r : R2} {op : PyData → PyData → Option DV} {a b : Expr} {f : DF} {g : DX} {pos : Pos} (hd : R2D r op) (ho : OpR X (binaryOp o) r) (ha : PE X a (tD f)) (hb : PE X b (tX g)) : PE X (.BinOp a o b pos) (tX (xOp op f g)) := (pe_op ho ha hb).imp fun σ H Q ⟨c, A, n, ρ, Q', E, hf, k⟩ => by
  refine ⟨c, A, n, ρ, _, E, hf, fun v x n1 H1 ⟨ad, ea, hg⟩ f1 o1 => ⟨c, A, n1, ρ, _, E.fr f1, hg, fun w bd ρ2 n2 H2 ⟨z, ez, hq⟩ E2 rw2 s2 => ?_⟩⟩
  refine hd c.t (c.av A) H2 v w ad bd (.d z) Q (fun b hb => (E2.there hb).imp fun o h => h.1) ((o1.dat E ea).ex s2) rw2 ez fun u H3 s3 o3 => ?_
  have f3 : Fr c n2 H2 H3 := Fr.same E2.g s3
  exact k u z ρ2 n2 H3 hq (E2.fr f3) o3 fun b o nt h => f3.msk b o nt (s2 b o nt (f1.msk b o nt h))
/-- (e,), (e, f) -/
def xTup (f : DX) (g : DA) : DX := fun ρ n Q => f ρ n fun x ρ1 n1 => g ρ1 n1 fun rs n2 => ∃ ds, datsOf rs = some ds ∧ ds.length ≤ 1000 ∧ Q (.tuple (x :: ds)) ρ1 n2
theorem pxTup {X : Cx} {e : Expr} {es : List Expr} {f : DX} {g : DA} {pos : Pos} {x1} (h : PE X e (tX f)) (hr : PA X es (tDA g)) (hs : starEach (e :: es) X.env = (false, eval e X.env) :: starEach es X.env := by rfl) : PE X (.Tuple (e :: es) x1 pos) (tX (xTup f g)) := (pe_tup (pa_cons h hr hs)).imp fun σ H Q ⟨c, A, n, ρ, Q', E, hf, k⟩ => by
  refine ⟨c, A, n, ρ, _, E, hf, fun v x ρ1 n1 H1 hg E1 rv s1 => ⟨c, A, n1, ρ1, _, E1, hg, fun vs rs n2 H2 ⟨ds, ed, hl, hq⟩ f2 o2 => ?_⟩⟩
  have r2 := o2.dats E1 ed
  have E2 := E1.fr f2
  refine ⟨big_line (by show vs.length + 1 ≤ 100000; rw [r2.length]; omega), fun p hp => ?_⟩
  have f3 : Fr c n2 H2 (upd H2 p (.tup (v :: vs))) := Fr.new E2.g hp
  exact k _ _ ρ1 n2 _ hq (E2.fr f3) (tup_new E2 hp (.cons (rv.ex f2.msk) r2)) fun b o nt h => f3.msk b o nt (f2.msk b o nt (s1 b o nt h))
/-- y = e, e changes one's own -/
def dSetX (i : Nat) (f : DX) : DS := fun E ρ n => f ρ n fun x ρ1 n1 => i < ρ1.length ∧ E.nx (ρ1.set i (.d x)) n1
theorem psSetX {X : Cx} {i : Nat} {x : Str} {e : Expr} {f : DX} {pos' pos : Pos} (hN : X.N.Nodup) (hi : X.N[i]? = some x) (hx : Loc X.env.scope x) (he : PE X e (tX f)) (hs : swapsWith e (some (.Name x pos')) pos.line X.env = pure false := by rfl) (hf : X.fn x = true ∨ X.env.scope.names.lookup x = some .local := by first | exact .inl rfl | exact .inr rfl | assumption) :
    PS X (.Assign [.Name x pos'] e pos) (sD (dSetX i f)) := (ps_set hN hi hx he hs hf).imp fun D σ H ⟨c, A, n, ρ, E, e, hf, L⟩ =>
  ⟨c, A, n, ρ, _, e, hf, fun v x ρ1 n1 H1 ⟨hi, h1⟩ E1 rv _ => L.nx _ _ _ _ _ h1 (E1.putD rv hi)⟩
end

/-! ### data readings: a dict of one's own, keys ints or texts -/
section
variable [Fam] [Tabz]
theorem hu_of {k : Nat} {A : Around} (hr : Room k A) : A.units + 1 < cLine := by
  have := hr.un
  omega
def kD : Key → PyData
  | .inl i => .int i
  | .inr x => .str x
def valD (kvs : List (Key × PyData)) (k : Key) : Option PyData := (kvs.find? fun kv => decide (kv.1 = k)).map (·.2)
def putKD (kvs : List (Key × PyData)) (k : Key) (d : PyData) : List (Key × PyData) := if (kvs.any fun kv => decide (kv.1 = k)) = true then kvs.map fun kv => if kv.1 = k then (kv.1, d) else kv else kvs ++ [(k, d)]
theorem kD_kV {M : Hp} {v : V} {k : Key} (h : Rp M v (kD k)) : v = kV k := by
  cases k with
  | inl i => cases h; rfl
  | inr x => cases h; rfl
theorem kV_kD {M : Hp} (k : Key) : Rp M (kV k) (kD k) := by
  cases k with
  | inl i => exact .int i
  | inr x => exact .str x
theorem KRp.val {M : Hp} {ws : List (Key × V)} {kvs : List (Key × PyData)} (r : KRp M ws kvs) (k : Key) : (valV ws k = none ∧ valD kvs k = none) ∨ ∃ v d, valV ws k = some v ∧ valD kvs k = some d ∧ Rp M v d := by
  induction r with
  | nil => exact .inl ⟨rfl, rfl⟩
  | @cons j v d ws kvs h _ ih =>
    unfold valV valD at ih ⊢
    rw [List.find?_cons, List.find?_cons]
    by_cases q : j = k
    · rw [decide_eq_true q]
      exact .inr ⟨v, d, rfl, rfl, h⟩
    · rw [decide_eq_false q]
      exact ih
theorem KRp.length {M : Hp} {ws : List (Key × V)} {kvs : List (Key × PyData)} (r : KRp M ws kvs) : ws.length = kvs.length := by
  induction r with
  | nil => rfl
  | cons _ _ ih => exact congrArg Nat.succ ih
theorem KRp.put {M : Hp} {ws : List (Key × V)} {kvs : List (Key × PyData)} (r : KRp M ws kvs) {k : Key} {v : V} {d : PyData} (h : Rp M v d) : KRp M (putK ws k v) (putKD kvs k d) := by
  have ha : (ws.any fun kv => decide (kv.1 = k)) = kvs.any fun kv => decide (kv.1 = k) := by
    induction r with
    | nil => rfl
    | cons _ _ ih => rw [List.any_cons, List.any_cons, ih]
  unfold putK putKD
  rw [ha]
  split
  · rename_i hq; clear hq ha
    induction r with
    | nil => exact .nil
    | @cons j v0 d0 ws kvs h0 _ ih =>
      rw [List.map_cons, List.map_cons]
      by_cases q : j = k
      · rw [if_pos (show (j, v0).1 = k from q), if_pos (show (j, d0).1 = k from q)]
        exact .cons h ih
      · rw [if_neg (show ¬ (j, v0).1 = k from q), if_neg (show ¬ (j, d0).1 = k from q)]
        exact .cons h0 ih
  · rename_i hq; clear hq ha
    induction r with
    | nil => exact .cons h .nil
    | cons h0 _ ih => exact .cons h0 ih
theorem valD_put (kvs : List (Key × PyData)) (k j : Key) (d : PyData) : valD (putKD kvs k d) j = if j = k then some d else valD kvs j := by
  have hany : ∀ l : List (Key × PyData), (l.any fun kv => decide (kv.1 = k)) = false → valD l k = none := fun l => by
    induction l with
    | nil => intro _; rfl
    | cons p l ih =>
      intro h
      rw [List.any_cons, Bool.or_eq_false_iff] at h
      unfold valD at ih ⊢
      rw [List.find?_cons, h.1]
      exact ih h.2
  have hmap : ∀ l : List (Key × PyData), (l.any fun kv => decide (kv.1 = k)) = true → valD (l.map fun kv => if kv.1 = k then (kv.1, d) else kv) j = if j = k then some d else valD l j := fun l => by
    induction l with
    | nil => intro h; cases h
    | cons p l ih =>
      intro h
      rw [List.any_cons] at h
      unfold valD at ih ⊢
      rw [List.map_cons, List.find?_cons, List.find?_cons]
      by_cases q : p.1 = k
      · rw [if_pos q]
        by_cases z : j = k
        · subst z
          rw [if_pos rfl]
          simp [q]
        · rw [if_neg z]
          have z1 : ¬ p.1 = j := fun e => z (e.symm.trans q)
          simp only [decide_eq_false z1]
          by_cases ha : (l.any fun kv => decide (kv.1 = k)) = true
          · have := ih ha
            rw [if_neg z] at this
            exact this
          · have hm : (l.map fun kv => if kv.1 = k then (kv.1, d) else kv) = l := by
              have : ∀ m : List (Key × PyData), (m.any fun kv => decide (kv.1 = k)) = false → (m.map fun kv => if kv.1 = k then (kv.1, d) else kv) = m := fun m => by
                induction m with
                | nil => intro _; rfl
                | cons x m ihm =>
                  intro hx
                  rw [List.any_cons, Bool.or_eq_false_iff] at hx
                  rw [List.map_cons, ihm hx.2, if_neg (of_decide_eq_false hx.1)]
              exact this l ((Bool.not_eq_true _).mp ha)
            rw [hm]
      · rw [if_neg q]
        have ha : (l.any fun kv => decide (kv.1 = k)) = true := by
          rw [decide_eq_false q, Bool.false_or] at h
          exact h
        by_cases z1 : p.1 = j
        · have z : ¬ j = k := fun e => q (z1.trans e)
          rw [if_neg z]
          simp [decide_eq_true z1]
        · simp only [decide_eq_false z1]
          exact ih ha
  unfold putKD
  split
  · rename_i h
    exact hmap kvs h
  · rename_i h
    have h' : (kvs.any fun kv => decide (kv.1 = k)) = false := (Bool.not_eq_true _).mp h
    have hk := hany kvs h'
    unfold valD at hk ⊢
    rw [List.find?_append]
    by_cases z : j = k
    · subst z
      rw [if_pos rfl]
      have : kvs.find? (fun kv => decide (kv.1 = j)) = none := by simpa using hk
      rw [this]
      simp
    · rw [if_neg z]
      have z' : ¬ k = j := fun e => z e.symm
      simp [z']
theorem putKD_len (kvs : List (Key × PyData)) (k : Key) (d : PyData) : (putKD kvs k d).length ≤ kvs.length + 1 := by
  unfold putKD
  split
  · rw [List.length_map]; omega
  · rw [List.length_append]; exact Nat.le_refl _
/-- {} -/
def dDNew : DF := fun _ n Q => Q (.dic []) n
theorem pdDNew {X : Cx} {e : Expr} (h : PE X e tDNewK) : PE X e (tD dDNew) := h.imp fun σ H Q ⟨c, A, n, ρ, Q', E, hf, k⟩ => by
  intro p hp
  refine k (.ref p) _ n _ hf (Fr.new E.g hp) ⟨p, [], rfl, fun o e => ?_, upd_same, .nil⟩
  rw [hp] at e
  cases e
/-- d.get(k, x) -/
def dDGet2 (i : Nat) (f g : DF) : DF := fun ρ n Q => (∃ kvs, ρ[i]? = some (.dic kvs)) ∧ f ρ n fun x n1 => ∃ k : Key, x = .d (kD k) ∧ g ρ n1 fun y n2 => ∃ kvs, ρ[i]? = some (.dic kvs) ∧ ∃ z, y.dat = some z ∧ Q (.d ((valD kvs k).getD z)) n2
theorem pdDGet2 {X : Cx} {o e f : Expr} {apos cpos : Pos} {i : Nat} {fe ff : DF} (hu : X.A.units + 1 < cLine) (ho : PE X o (tVar i)) (he : PE X e (tD fe)) (hf : PE X f (tD ff)) (m : M2 X o "get" apos e f cpos) : PE X (.Call (.Attribute o "get" apos) [e, f] [] cpos) (tD (dDGet2 i fe ff)) := (pe_dget2 hu ho he hf m).imp fun σ H Q ⟨c, A, n, ρ, Q', E, ⟨⟨kvs0, e0⟩, hf⟩, k⟩ => by
  obtain ⟨a, ws, h1, h2, h3, h4⟩ := E.slot i _ e0
  refine ⟨_, h2, a, rfl, .inl ⟨ws, .inl h3⟩, c, A, n, ρ, _, E, hf, fun v x n1 H1 ⟨key, ex, hg⟩ f1 o1 => ⟨c, A, n1, ρ, _, E.fr f1, hg, fun w y n2 H2 ⟨kvs, e1, z, ez, hq⟩ f2 o2 => ?_⟩⟩
  subst ex
  have E2 := (E.fr f1).fr f2
  obtain ⟨a', ws', k1, k2, k3, k4⟩ := E2.slot i _ e1
  rw [h1] at k1
  cases k1
  obtain rfl := kD_kV (show Rp _ v (kD key) from o1)
  refine ⟨valV ws' key, .inl ⟨ws', key, .inl k3, rfl, rfl⟩, ?_⟩
  rcases k4.val key with ⟨q1, q2⟩ | ⟨u, d, q1, q2, rp⟩
  · rw [q2] at hq
    rw [q1]
    exact k w _ n2 H2 hq (f1.trans f2) (o2.dat (E.fr f1) ez)
  · rw [q2] at hq
    rw [q1]
    exact k u _ n2 H2 hq (f1.trans f2) rp
/-- d[k] -/
def dDIx (i : Nat) (f : DF) : DF := fun ρ n Q => (∃ kvs, ρ[i]? = some (.dic kvs)) ∧ f ρ n fun x n1 => ∃ k : Key, x = .d (kD k) ∧ ∃ kvs, ρ[i]? = some (.dic kvs) ∧ ∃ z, valD kvs k = some z ∧ Q (.d z) n1
theorem pdDIx {X : Cx} {o e : Expr} {pos : Pos} {i : Nat} {fe : DF} (h : PE X (.Subscript o e pos) (tDGet (tVar i) (tD fe))) : PE X (.Subscript o e pos) (tD (dDIx i fe)) := h.imp fun σ H Q ⟨c, A, n, ρ, Q', E, ⟨⟨kvs0, e0⟩, hf⟩, k⟩ => by
  obtain ⟨a, ws, h1, h2, h3, h4⟩ := E.slot i _ e0
  refine ⟨_, h2, c, A, n, ρ, _, E, hf, fun v x n1 H1 ⟨key, ex, kvs, e1, z, ez, hq⟩ f1 o1 => ?_⟩
  subst ex
  have E1 := E.fr f1
  obtain ⟨a', ws', k1, k2, k3, k4⟩ := E1.slot i _ e1
  rw [h1] at k1
  cases k1
  obtain rfl := kD_kV (show Rp _ v (kD key) from o1)
  rcases k4.val key with ⟨q1, q2⟩ | ⟨u, d, q1, q2, rp⟩
  · rw [q2] at ez
    cases ez
  · rw [q2] at ez
    cases ez
    exact ⟨a, u, rfl, .inl ⟨ws', key, .inl k3, rfl, q1.symm⟩, k u _ n1 H1 hq f1 rp⟩
/-- k in d -/
def dDIn (neg : Bool) (i : Nat) (f : DF) : DF := fun ρ n Q => (∃ kvs, ρ[i]? = some (.dic kvs)) ∧ f ρ n fun x n1 => ∃ k : Key, x = .d (kD k) ∧ ∃ kvs, ρ[i]? = some (.dic kvs) ∧ Q (.d (.bool (if neg then !(valD kvs k).isSome else (valD kvs k).isSome))) n1
/-- d[k] = x -/
def dDPut (i : Nat) (f g : DF) : DS := fun E ρ n => (∃ kvs, ρ[i]? = some (.dic kvs)) ∧ g ρ n fun y n1 => f ρ n1 fun x n2 => ∃ k : Key, x = .d (kD k) ∧ ∃ z, y.dat = some z ∧ ∃ kvs, ρ[i]? = some (.dic kvs) ∧ kvs.length < 100000 ∧ E.nx (ρ.set i (.dic (putKD kvs k z))) n2
theorem psDPut {X : Cx} {o e value : Expr} {pos pos' : Pos} {i : Nat} {fe fv : DF} (hu : X.A.units + 1 < cLine) (ho : PE X o (tVar i)) (he : PE X e (tD fe)) (hv : PE X value (tD fv)) (hs : swapsWith value (some (.Subscript o e pos')) pos.line X.env = pure false := by rfl) :
    PS X (.Assign [.Subscript o e pos'] value pos) (sD (dDPut i fe fv)) := (ps_dput hu ho he hv hs).imp fun D σ H ⟨c, A, n, ρ, E, e, ⟨⟨kvs0, e0⟩, hf⟩, L⟩ => by
  refine ⟨c, A, n, ρ, _, e, hf, fun v y n1 H1 hg f1 o1 => ?_⟩
  have E1 := e.fr f1
  obtain ⟨a, ws, h1, h2, h3, h4⟩ := E1.slot i _ e0
  refine ⟨_, h2, c, A, n1, ρ, _, E1, hg, fun w x n2 H2 ⟨key, ex, z, ez, kvs, e1, hl, hn⟩ f2 o2 => ?_⟩
  subst ex
  have E2 := E1.fr f2
  obtain ⟨a', ws', k1, k2, k3, k4⟩ := E2.slot i _ e1
  rw [h1] at k1
  cases k1
  obtain rfl := kD_kV (show Rp _ w (kD key) from o2)
  have rv : Rp (msk (c.av A) H2) v z := (o1.dat e ez).ex f2.msk
  refine ⟨a, _, rfl, .inl ⟨ws', key, k3, rfl, big_lt (by rw [k4.length]; exact hl), rfl⟩, ?_⟩
  exact L.nx _ _ _ _ _ hn (E2.mut h1 k3 (.inr ⟨_, rfl⟩) (fun ps z => by cases z) ⟨a, _, h1, k2, upd_same, k4.put rv⟩ fun _ => rfl)
end

/-! ### dict([(k, v), ..]) of pairs whose keys are ints or texts -/
section
variable [Fam] [Tabz]
def pairK (q : Key × PyData) : PyData := .tuple [kD q.1, q.2]
def mergeD (kvs more : List (Key × PyData)) : List (Key × PyData) := more.foldl (fun acc kv => putKD acc kv.1 kv.2) kvs
theorem KRp.merge {M : Hp} {more : List (Key × V)} {ds : List (Key × PyData)} (r : KRp M more ds) : ∀ {ws : List (Key × V)} {kvs : List (Key × PyData)}, KRp M ws kvs → KRp M (mergeK ws more) (mergeD kvs ds) := by
  induction r with
  | nil => intro ws kvs h; exact h
  | cons h _ ih => intro ws kvs q; exact ih (q.put h)
theorem pairs_rp {M : Hp} : ∀ {vs : List V} {ds : List (Key × PyData)}, RpA M vs (ds.map pairK) → ∃ (ps : List Addr) (kvs : List (Key × V)), vs = ps.map V.ref ∧ KRp M kvs ds ∧ Paired (fun p kv => M p = some (.tup [kV kv.1, kv.2])) ps kvs
  | _, [], h => by
    cases h
    exact ⟨[], [], rfl, .nil, .nil⟩
  | _, (k, d) :: ds, h => by
    cases h with
    | cons r t =>
      obtain ⟨ps, kvs, e, h1, h2⟩ := pairs_rp t
      cases r with
      | @tup a xs _ g1 g2 =>
        cases g2 with
        | cons r1 t1 => cases t1 with
          | cons r2 t2 =>
            cases t2
            have ek := kD_kV r1
            subst ek
            exact ⟨a :: ps, (k, _) :: kvs, by rw [e]; rfl, .cons r2 h1, .cons g1 h2⟩
def dDictP (f : DF) : DF := fun ρ n Q => f ρ n fun r n1 => ∃ ds : List (Key × PyData), r.dat = some (.list (ds.map pairK)) ∧ Q (.dic (mergeD [] ds)) n1
theorem pdDictP {X : Cx} {e : Expr} {f : DF} (h : PE X e (tCB (fun xs H Q => ∃ (a : Addr) (ps : List Addr) (kvs : List (Key × V)), xs = [.ref a] ∧ SqL X.K H a (ps.map V.ref) ∧ Paired (fun p kv => SqT X.K H p [kV kv.1, kv.2]) ps kvs ∧
    ∀ p, H p = none → Q (.ref p) (upd H p (.dK (mergeK [] kvs)))) (tCons (tD f) tNil))) : PE X e (tD (dDictP f)) := h.imp fun σ H Q ⟨c, A, n, ρ, Q', E, hf, k⟩ => by
  refine ⟨c, A, n, ρ, _, E, hf, fun v r n1 H1 ⟨ds, ed, hq⟩ f1 o1 => ?_⟩
  have rp := o1.dat E ed
  have E1 := E.fr f1
  cases rp with
  | @lst l xs _ h1 h2 =>
    obtain ⟨ps, kvs, e1, hk, hp⟩ := pairs_rp h2
    subst e1
    have up : ∀ {ps : List Addr} {kvs : List (Key × V)}, Paired (fun p kv => msk (c.av A) H1 p = some (.tup [kV kv.1, kv.2])) ps kvs → Paired (fun p kv => SqT X.K H1 p [kV kv.1, kv.2]) ps kvs := fun {ps kvs} h => by
      induction h with
      | nil => exact .nil
      | cons a _ ih => exact .cons (SqT.of (msk_some a).2) ih
    refine ⟨l, ps, kvs, rfl, SqL.of (msk_some h1).2, up hp, fun p np => ?_⟩
    refine k _ _ n1 _ hq (f1.trans (Fr.new E1.g np)) (VOk.mono E f1 ⟨p, _, rfl, .of np, upd_same, (hk.merge (ws := []) (kvs := []) .nil).ex fun b o _ e => ?_⟩)
    obtain ⟨g1, g2⟩ := msk_some e
    have ne : b ≠ p := ne_of_none g2 np
    rw [msk_out fun z => z.elim g1 ne, upd_ne ne]
    exact g2
theorem merge_val : ∀ (ds : List (Key × PyData)) (acc : List (Key × PyData)), (ds.map (·.1)).Nodup → (∀ k v, (k, v) ∈ ds → valD (mergeD acc ds) k = some v) ∧ ∀ k, k ∉ ds.map (·.1) → valD (mergeD acc ds) k = valD acc k
  | [], acc, _ => ⟨fun k v h => (by cases h), fun k _ => rfl⟩
  | (k0, v0) :: ds, acc, h => by
    obtain ⟨h1, h2⟩ := List.nodup_cons.mp h
    obtain ⟨a, b⟩ := merge_val ds (putKD acc k0 v0) h2
    refine ⟨fun k v hm => ?_, fun k hk => ?_⟩
    · rcases List.mem_cons.mp hm with e | e
      · cases e
        show valD (mergeD (putKD acc k0 v0) ds) k0 = _
        rw [b k0 h1, valD_put, if_pos rfl]
      · exact a k v e
    · have hk' := fun z => hk (List.mem_cons.mpr z)
      show valD (mergeD (putKD acc k0 v0) ds) k = _
      rw [b k fun z => hk' (.inr z), valD_put, if_neg fun z => hk' (.inl z)]
theorem mergeD_len : ∀ (ds acc : List (Key × PyData)), (mergeD acc ds).length ≤ acc.length + ds.length
  | [], acc => Nat.le_refl _
  | q :: ds, acc => by
    have := mergeD_len ds (putKD acc q.1 q.2)
    have := putKD_len acc q.1 q.2
    show (mergeD (putKD acc q.1 q.2) ds).length ≤ acc.length + (ds.length + 1)
    omega
end

/-! ### sorted(xs, key=f), f a def -/
section
open PySem.W PySem.Calls PyProof.Rows
variable {prog : Program} {w : World} {A : Around} {E : Value → Shared → Prop} {s : Shared}
/-- sorted with a def as key: J kS i s' us: i keys are made, us; kS holds them -/
theorem sortJ {l f : Addr} {vs : List Value} {kz : List PyData} {Q : Value → Shared → Prop} (J : Addr → Nat → Shared → List Value → Prop)
    (hl : s.heap.IsList l vs.toArray) (hz : vs.length ≤ sizeLine) (hlen : kz.length = vs.length) (hal : AllAlike kz) (hsk : Sortable kz) (hu : ∀ d ∈ kz, A.units + 2 + d.depth < cLine)
    (j0 : ∀ kS h', s.heap.objs.size < kS → kS ≠ s.heap.objs.size + 1 → (∀ b o, s.heap.get? b = some o → h'.get? b = some o) → J kS 0 { s with heap := h' } [])
    (jc : ∀ kS i v s' us oa ok, vs[i]? = some v → J kS i s' us → s'.heap.get? (s.heap.objs.size + 1) = some oa → (∀ z, oa.data ≠ .cell z) → s'.heap.get? kS = some ok → (∀ z, ok.data ≠ .cell z) →
      wpAny (model prog w) A.in1.in1 (call (.ref f) [v]) (fun u s2 => J kS (i + 1) s2 (us ++ [u]) ∧ s2.heap.get? (s.heap.objs.size + 1) = some oa ∧ s2.heap.get? kS = some ok) (fun _ _ => False) s')
    (ju : ∀ kS i s' us g, J kS i s' us → (∀ b o, b ≠ kS → s'.heap.get? b = some o → g.get? b = some o) → J kS i { s' with heap := g } us)
    (je : ∀ kS s' us, J kS vs.length s' us → EachIs (fun u k => ∃ as, Reads s'.heap u k as) us kz)
    (h : ∀ kS s' us h' tk out c, J kS vs.length s' us → (∀ b o, b ≠ s.heap.objs.size + 1 → b ≠ kS → s'.heap.get? b = some o → h'.get? b = some o) → h'.get? (s.heap.objs.size + 1) = some (seqObj "list" (List.toArray out) c) → (∃ o, s'.heap.get? kS = some o) →
      KeyedOut false kz vs out → Q (.ref (s.heap.objs.size + 1)) { s' with heap := h', toks := tk }) :
    wpAny (model prog w) A (call (.builtin "sorted") [.ref l] [(Str.ofString "key", .ref f)]) Q E s := by
  refine sorted_of_sort hl hz (ksk_s1 _ _) (fun _ => ksk_l1 _ _) fun E' => ?_
  rw [ksk_t1]
  generalize ea : s.heap.objs.size + 1 = a at *
  have cp : (copyHeap s.heap vs).get? a = some (seqObj "list" vs.toArray _) := ea ▸ copyHeap_at s.heap vs
  have old0 : ∀ b o, s.heap.get? b = some o → b ≠ a ∧ (copyHeap s.heap vs).get? b = some o := fun b o q => ⟨fun z => absurd (Heap.lt_size q) (by rw [z, ← ea]; exact Nat.not_lt.mpr (Nat.le_succ _)), copyHeap_old q⟩
  generalize copyHeap s.heap vs = g0 at cp old0 ⊢
  have sz : a < g0.objs.size := Heap.lt_size cp
  obtain ⟨e1, c1⟩ : ∃ e1, (g0.update a (Obj.mapSeq fun _ => (#[] : Array Value))).get? a = some (seqObj "list" #[] e1) := ⟨_, get?_update_seq cp fun _ => #[]⟩
  have old1 : ∀ b o, s.heap.get? b = some o → (g0.update a (Obj.mapSeq fun _ => (#[] : Array Value))).get? b = some o := fun b o q =>
    ((Heap.SameBut.update g0 a (Obj.mapSeq fun _ => (#[] : Array Value))).2 b (old0 b o q).1).trans (old0 b o q).2
  have sz1 : (g0.update a (Obj.mapSeq fun _ => (#[] : Array Value))).objs.size = g0.objs.size := Heap.size_update ..
  unfold ksk_tree
  refine wpAny_bind (listItems_at (s := { s with heap := g0 }) cp rfl (wpAny_bind (listUpdate_at (s := { s with heap := g0 }) cp rfl ?_ (by rw [List.size_toArray]; exact hz) (Nat.zero_le _))))
  generalize g0.update a (Obj.mapSeq fun _ => (#[] : Array Value)) = g1 at *
  refine wpAny_bind (seqEpoch_at (s := { s with heap := g1 }) c1 rfl (wpAny_bind (wpAny_newTuple ?_ (by show vs.length ≤ _; exact hz))))
  refine wpAny_bind (wpAny_newList (wpAny_holding ?_) (Nat.zero_le _))
  have c2 : ((g1.push (seqObj "tuple" vs.toArray 0)).push (seqObj "list" #[] 0)).get? a = some (seqObj "list" #[] e1) := Heap.get?_push_of_some _ (Heap.get?_push_of_some _ c1)
  have k2 : ((g1.push (seqObj "tuple" vs.toArray 0)).push (seqObj "list" #[] 0)).get? (g1.push (seqObj "tuple" vs.toArray 0)).objs.size = some (seqObj "list" #[] 0) := Heap.get?_push_size _ rfl
  have old2 : ∀ b o, s.heap.get? b = some o → ((g1.push (seqObj "tuple" vs.toArray 0)).push (seqObj "list" #[] 0)).get? b = some o := fun b o q => Heap.get?_push_of_some _ (Heap.get?_push_of_some _ (old1 b o q))
  have hkS : (g1.push (seqObj "tuple" vs.toArray 0)).objs.size = g1.objs.size + 1 := size_push' ..
  show wpAny _ _ (ksk_rest a (.ref f) false vs.toArray e1 (.ref (g1.push (seqObj "tuple" vs.toArray 0)).objs.size)) _ _ { s with heap := ((g1.push (seqObj "tuple" vs.toArray 0)).push (seqObj "list" #[] 0)) }
  generalize (g1.push (seqObj "tuple" vs.toArray 0)).objs.size = kS at *
  generalize (g1.push (seqObj "tuple" vs.toArray 0)).push (seqObj "list" #[] 0) = g2 at *
  have ne : kS ≠ a := by omega
  unfold ksk_rest
  refine wpAny_bind (wpAny_rule ?_)
  first
    | rw [List.forIn_toArray]
    | (rw [← Array.forIn_toList]; simp only [List.toList_toArray])
  refine wpAny_bind (ksk_fold (fun i s2 => ∃ us e, J kS i s2 us ∧ us.length = i ∧ s2.heap.get? kS = some (seqObj "list" us.toArray e) ∧ s2.heap.get? a = some (seqObj "list" #[] e1)) vs 0 _
    ⟨[], 0, j0 kS g2 (by omega) ne old2, rfl, k2, c2⟩ ?step ?done)
  case step =>
    rintro j x s2 hx ⟨us, e, hJ, hul, nk, na⟩
    simp only [Nat.zero_add] at hJ hul ⊢
    have hj : j < vs.length := (List.getElem?_eq_some_iff.mp hx).1
    refine wpAny_bind (wpAny_attempt (wpAny_mono (jc kS j x s2 us _ _ hx hJ na (fun z q => by cases q) nk (fun z q => by cases q)) (fun u s3 he => ?_) fun _ _ hF => hF.elim))
    obtain ⟨hJ3, na3, nk3⟩ := he
    try dsimp only
    have s3' := Heap.SameBut.update s3.heap kS (Obj.mapSeq (·.push u))
    obtain ⟨c2', hc2⟩ : ∃ c2, (s3.heap.update kS (Obj.mapSeq (·.push u))).get? kS = some (seqObj "list" (us.toArray.push u) c2) := ⟨_, get?_update_seq nk3 (·.push u)⟩
    have zz : us.toArray.size ≤ sizeLine := by rw [List.size_toArray, hul]; omega
    refine wpAny_bind (listUpdate_at nk3 rfl ?_ zz (by rw [Array.size_push]; exact Nat.succ_le_succ zz))
    refine wpAny_pure ⟨rfl, us ++ [u], c2', ju _ _ _ _ _ hJ3 (fun b o hb q => (s3'.2 b hb).trans q), by rw [List.length_append, hul]; rfl, ?_, (s3'.2 a ne.symm).trans na3⟩
    show (s3.heap.update kS _).get? kS = _
    rw [hc2]
    simp
  case done =>
    rintro s2 ⟨us, e, hJ, hul, nk, na⟩
    rw [Nat.zero_add] at hJ hul
    try dsimp only
    refine wpAny_bind (listItems_at nk rfl ?_)
    have hkS0 : (hideAll s2.heap [kS]).get? kS = none := hideAll_none [kS] (List.mem_singleton.mpr rfl)
    have kp : KeepsBut a (hideAll s2.heap [kS]) s2.heap := fun b o _ q => of_hideAll [kS] q
    have ek := je kS s2 us hJ
    refine keyH_end (κ := dataKind s2.heap kz) (h₁ := hideAll s2.heap [kS]) kp hkS0 nk na ne (SortsAt.data (s := s2) (by simpa using ek) hal hsk (fun d hd => by have := hu d hd; exact this)) (by rw [List.size_toArray, hul]) hz fun h3 tk3 c k3 n3 => ⟨rfl, ?_⟩
    refine h kS s2 us h3 tk3 _ c hJ (fun b o b1 b2 q => k3 b o b1 (hideAll_get [kS] q (fun z => b2 (List.mem_singleton.mp z)))) n3 ⟨_, nk⟩ ?_
    exact ⟨s2.heap, us, hal, rfl, by simpa using ek⟩
end
/-- a name of the module that holds a def, as a value -/
theorem pe_gdef {X : Cx} {x : Str} {p : Pos} {f : Addr} (hg : Gl X x) (hm : X.mg x = some (.ref f)) (hdb : (x == ("__debug__" : Str)) = false := by decide) : PE X (.Name x p) (tC (.ref f)) :=
  ⟨fun pins s σ H Q I h => ld_glob I hg hm ⟨.ref f, H, I, rfl, h⟩ hdb⟩
section
variable {X : Cx} {pins : List (Addr × Obj)} {σ : L2.St} {H : Hp} {s : Shared}
/-- two untracked new objects have changed, one of them is tracked from now on -/
theorem inv_two {a k : Addr} {o : HO} {h' : Heap} {t' : Nat} (I : Inv X pins σ H s) (hc : ∀ b, b = a ∨ b = k → X.s_0.heap.objs.size ≤ b ∧ b ≠ X.env.locals ∧ (∀ x c, X.env.cells.lookup x = some c → c ≠ b) ∧ (∀ p ∈ X.pn ++ pins, p.1 ≠ b) ∧ H b = none)
    (keep : ∀ b o, b ≠ a → b ≠ k → s.heap.get? b = some o → h'.get? b = some o) (new : ObjOk X.prog X.w (upd H a o) h' a o) : Inv X pins σ (upd H a o) { s with heap := h', toks := t' } := by
  obtain ⟨a1, a2, a3, a4, a5⟩ := hc a (.inl rfl)
  obtain ⟨k1, k2, k3, k4, k5⟩ := hc k (.inr rfl)
  have nm : ∀ {b : Addr}, b ∉ [a, k] → b ≠ a ∧ b ≠ k := fun {b} h => ⟨fun e => h (by rw [e]; simp), fun e => h (by rw [e]; simp)⟩
  have old : ∀ {b : Addr} {u : HO}, H b = some u → b ≠ a ∧ b ≠ k := fun {b u} e => ⟨ne_of_none e a5, ne_of_none e k5⟩
  refine I.step (g' := s.gens) (d' := s.drawn) (ch := [a, k]) (fun b hb => ?_) (fun b u _ _ hb e _ => keep b u (nm hb).1 (nm hb).2 e) (fun b u _ _ hb e _ => ⟨u.slots, keep b u (nm hb).1 (nm hb).2 e⟩) (fun b u hb _ n => by rw [upd_ne (nm hb).1]; exact n)
    (fun b u hb e => ⟨u, keep b u (nm hb).1 (nm hb).2 e⟩) (fun b xs e => by rw [upd_ne (old e).1]; exact e) (fun b u v e => by rw [upd_ne (old e).1]; exact e) (fun b ps e => ⟨#[], by rw [upd_ne (old e).1, e]; simp⟩) (fun m hm => ?_) (fun b u e => ?_) I.bare
  · have hb' : b = a ∨ b = k := by simpa using hb
    obtain ⟨x1, x2, x3, x4, _⟩ := hc b hb'
    exact ⟨.inr x1, x2, x3, x4⟩
  · obtain ⟨u, es, ep, hu, r⟩ := hm
    exact ⟨u, es, ep, keep _ u a2.symm k2.symm hu, r⟩
  · by_cases z : b = a
    · subst z
      rw [upd_same] at e
      cases e
      exact new
    · rw [upd_ne z] at e
      refine (I.hok b u e).stay (fun c v hcc q => ?_) (fun c q => by rw [upd_ne (old q).1]; exact q) fun c xs q => by rw [upd_ne (old q).1]; exact q
      have hc2 : c ≠ a ∧ c ≠ k := by
        rcases hcc with y | y
        · rw [y]; exact old e
        · exact old y
      exact keep c v hc2.1 hc2.2 q
end
theorem each_dp {X : Cx} {pins : List (Addr × Obj)} {σ : L2.St} {H : Hp} {s : Shared} (I : Inv X pins σ H s) : ∀ {ws : List V} {us : List Value} {kz : List PyData}, Vals ws us → ws.length = kz.length → (∀ (i : Nat) (u : V) (d : PyData), ws[i]? = some u → kz[i]? = some d → Dp X.K H u d) →
    PySem.W.EachIs (fun u k => ∃ as, Reads s.heap u k as) us kz
  | _, _, [], .nil, _, _ => .nil
  | _, _, _ :: _, .nil, h, _ => by cases h
  | _, _, [], .cons _ _, h, _ => by cases h
  | _, _, _ :: _, .cons r t, h, g => .cons (Dp.reads I _ _ _ (g 0 _ _ rfl rfl) r) (each_dp I t (by simpa using h) fun i u d hu hd => g (i + 1) u d (by rw [List.getElem?_cons_succ]; exact hu) (by rw [List.getElem?_cons_succ]; exact hd))
/-- what sorted(e, key=f) asks: Ph i H us: i keys are made, us -/
def rSortDef (K : PySem.W.Frag) (f : Addr) (sp : Sp) : List V → List V → Hp → VK → Prop := fun vs zs H1 Q => zs = [.ref f] ∧ ∃ (a : Addr) (bs : List (V × PyData)) (kk : V × PyData → PyData) (Ph : Nat → Hp → List V → Prop), vs = [.ref a] ∧ SqL K H1 a (bs.map Prod.fst) ∧
  PySem.W.AllAlike (bs.map kk) ∧ PySem.W.Sortable (bs.map kk) ∧ (∀ y ∈ bs, (kk y).depth ≤ 10) ∧ Ph 0 H1 [] ∧
  (∀ i y H2 us, bs[i]? = some y → Ph i H2 us → sp [y.1] H2 (fun v H3 => Ph (i + 1) H3 (us ++ [v])) E0) ∧
  (∀ (H2 : Hp) (us : List V), Ph bs.length H2 us → us.length = bs.length ∧ (∀ (i : Nat) (u : V) (y : V × PyData), us[i]? = some u → bs[i]? = some y → Dp K H2 u (kk y)) ∧ ∀ p, H2 p = none → Q (.ref p) (upd H2 p (.lst ((bs.mergeSort (PySem.W.dataLe false kk)).map Prod.fst))))
theorem each_fst : ∀ {bs : List (V × PyData)} {us : List Value}, Vals (bs.map Prod.fst) us → PySem.W.EachIs (fun v (b : V × PyData) => RelV b.1 v) us bs
  | [], _, .nil => .nil
  | _ :: _, _, .cons r t => .cons r (each_fst t)
theorem fst_vals : ∀ {bs : List (V × PyData)} {us : List Value}, PySem.W.EachIs (fun v (b : V × PyData) => RelV b.1 v) us bs → Vals (bs.map Prod.fst) us
  | _, _, .nil => .nil
  | _, _, .cons r t => .cons r (fst_vals t)
theorem cr_sortDef {X : Cx} {f : Addr} {fd : FuncData} {p : Str} {k : Nat} {sp : Sp} (F : FnOk X.prog X.w X.K X.mg X.base CX0 k f fd [p] sp) (hb : Binds X.K fd [p] []) (hr : Room (k + 2) X.A) : CallRK X (.builtin "sorted") ["key"] (rSortDef X.K f sp) := by
  intro pins s σ H vs zs us ws Q I r1 r2 h
  obtain ⟨rfl, a, bs, kk, Ph, rfl, hs, hal, hsk, hdep, p0, pc, pe⟩ := h
  cases r1 with
  | cons ra rt =>
    cases rt
    cases r2 with
    | cons rf rt2 =>
      cases rt2
      obtain rfl := ra
      obtain rfl := rf
      obtain ⟨its, rv, hl, hz⟩ := I.list hs
      have hun := hr.un
      rw [List.length_map] at hz
      have hL : its.length = bs.length := by rw [← rv.length, List.length_map]
      have obj : ∀ b : Addr, s.heap.objs.size ≤ b → X.s_0.heap.objs.size ≤ b ∧ b ≠ X.env.locals ∧ (∀ x c, X.env.cells.lookup x = some c → c ≠ b) ∧ (∀ q ∈ X.pn ++ pins, q.1 ≠ b) := fun b hb => by
        have nt : ∀ {o : Obj}, s.heap.get? b = some o → False := fun {o} e => absurd (Heap.lt_size e) (Nat.not_lt.mpr hb)
        refine ⟨Nat.le_trans I.sz hb, fun e => ?_, fun x c e z => ?_, fun q hq z => ?_⟩
        · obtain ⟨m, ⟨o, _, _, ho, _⟩, _⟩ := I.loc
          rw [← e] at ho
          exact nt ho
        · obtain ⟨v, o, ho, _⟩ := I.cell x c e
          rw [z] at ho
          exact nt ho
        · obtain ⟨e, _⟩ := I.pin q hq
          rw [z] at e
          exact nt e
      show wpAny _ _ (call (.builtin "sorted") [.ref a] [(Str.ofString "key", .ref f)]) _ _ s
      refine sortJ (kz := bs.map kk) (fun kS i s2 us => s.heap.objs.size < kS ∧ ∃ H2 ws, Inv X pins σ H2 s2 ∧ Vals ws us ∧ Ph i H2 ws ∧ H2 (s.heap.objs.size + 1) = none ∧ H2 kS = none) hl.isList (by rw [hL]; exact hz) (by rw [List.length_map, hL]) hal hsk (fun d hd => ?_) ?_ ?_ ?_ ?_ ?_
      · obtain ⟨y, hy, rfl⟩ := List.mem_map.mp hd
        have := hdep y hy
        omega
      · intro kS h' h1 h2 keep
        exact ⟨h1, H, [], I.kept (t' := s.toks) keep, .nil, p0, I.hok.fresh (by omega), I.hok.fresh (by omega)⟩
      · rintro kS i v s2 us oa ok hv ⟨h1, H2, ws, I2, rw2, ph, n1, n2⟩ ha na hk nk
        obtain ⟨y, hy, ry⟩ : ∃ y, bs[i]? = some y ∧ RelV y.1 v := by
          have hi : i < bs.length := by
            have := (List.getElem?_eq_some_iff.mp hv).1
            omega
          refine ⟨bs[i], List.getElem?_eq_getElem hi, ?_⟩
          obtain ⟨u, e1, e2⟩ := rv.get (i := i) (x := bs[i].1) (by rw [List.getElem?_map, List.getElem?_eq_getElem hi]; rfl)
          rw [hv] at e1
          cases e1
          exact e2
        have q := pc i y H2 ws hy ph
        obtain ⟨q1, q2, q3, q4⟩ := obj (s.heap.objs.size + 1) (by omega)
        obtain ⟨w1, w2, w3, w4⟩ := obj kS (by omega)
        have nfs : ∀ b, s.heap.objs.size ≤ b → b ∉ X.fs := fun b hb z => by
          obtain ⟨_, o, ho, _⟩ := I.ok.funs.mem z
          exact absurd (Heap.lt_size ho) (Nat.not_lt.mpr (Nat.le_trans I.sz hb))
        have I3 : Inv X ((s.heap.objs.size + 1, oa) :: (kS, ok) :: pins) σ H2 s2 := I2.pins_of fun p hp => by
          rcases List.mem_cons.mp hp with e | hp
          · rw [e]; exact ⟨ha, n1, q2, nfs _ (by omega), na⟩
          · rcases List.mem_cons.mp hp with e | hp
            · rw [e]; exact ⟨hk, n2, w2, nfs _ (by omega), nk⟩
            · exact I2.pin p (List.mem_append_right _ hp)
        have env := I2.env0.in1.in1
        have hb2 := hb s2 [v] I2.kIn rfl
        have hr2 : Room k X.A.in1.in1 := Room.in1 (Room.in1 hr)
        refine wpAny_call (codeAny_mono (F.run X.A.in1.in1 X.stack s2 H2 ⟨[v], []⟩ [v] [y.1] _ _ hr2 env hb2 (.cons ry .nil) q) fun r s3 hq => ?_)
        cases r with
        | error e => exact hq.elim
        | ok fl =>
          cases fl with
          | next => exact False.elim hq
          | brk => exact False.elim hq
          | cont => exact False.elim hq
          | ret u =>
            obtain ⟨z, H3, I4, rz, ph3⟩ := I3.after hq
            have g1 := I4.pin (s.heap.objs.size + 1, oa) (by simp)
            have g2 := I4.pin (kS, ok) (by simp)
            exact ⟨⟨h1, H3, ws ++ [z], I4.pins_of fun p hp => I4.pin p (by simp [hp]), rw2.append (.cons rz .nil), ph3, g1.2.1, g2.2.1⟩, g1.1, g2.1⟩
      · rintro kS i s2 us g ⟨h1, H2, ws, I2, rw2, ph, n1, n2⟩ keep
        obtain ⟨w1, w2, w3, w4⟩ := obj kS (by omega)
        exact ⟨h1, H2, ws, I2.turned (t' := s2.toks) keep n2 w2 (.inr w1) w3 w4, rw2, ph, n1, n2⟩
      · rintro kS s2 us ⟨h1, H2, ws, I2, rw2, ph, n1, n2⟩
        rw [hL] at ph
        obtain ⟨e1, e2, _⟩ := pe H2 ws ph
        exact each_dp I2 rw2 (by rw [List.length_map]; exact e1) fun i u d hu hd => by
          rw [List.getElem?_map] at hd
          cases q : bs[i]? with
          | none => rw [q] at hd; cases hd
          | some y =>
            rw [q] at hd
            cases hd
            exact e2 i u y hu q
      · rintro kS s2 us h' tk out c ⟨h1, H2, ws, I2, rw2, ph, n1, n2⟩ keep hout hkS ko
        rw [hL] at ph
        obtain ⟨_, _, e3⟩ := pe H2 ws ph
        have each := PySem.W.keyedOut_each kk ko (each_fst rv)
        refine ⟨.ref _, upd H2 (s.heap.objs.size + 1) (.lst ((bs.mergeSort (PySem.W.dataLe false kk)).map Prod.fst)), ?_, rfl, e3 _ n1⟩
        refine inv_two (k := kS) I2 (fun b hb => ?_) keep ⟨?_, out, c, fst_vals each, hout⟩
        · rcases hb with e | e
          · subst e
            obtain ⟨q1, q2, q3, q4⟩ := obj (s.heap.objs.size + 1) (by omega)
            exact ⟨q1, q2, q3, q4, n1⟩
          · subst e
            obtain ⟨q1, q2, q3, q4⟩ := obj b (by omega)
            exact ⟨q1, q2, q3, q4, n2⟩
        · rw [List.length_map, List.length_mergeSort]
          exact hz
section
variable [Fam] [Tabz]
abbrev leKf (kk : PyData → PyData) : PyData → PyData → Bool := PySem.W.dataLe false kk
def dSortF (m : DM) (g : DF) : DF := fun ρ n Q => g ρ n fun x n1 => ∃ (ds : List PyData) (kk : PyData → PyData), x.dat = some (.list ds) ∧ PySem.W.AllAlike (ds.map kk) ∧ PySem.W.Sortable (ds.map kk) ∧ (∀ d ∈ ds, (kk d).depth ≤ 10) ∧
  (∀ d ∈ ds, ∀ (n2 : Int) (Q2 : DQ), Q2 (.d (kk d)) n2 → m [.d d] n2 Q2) ∧ Q (.own (ds.mergeSort (leKf kk))) n1
theorem rpa_zip2 {M : Hp} : ∀ {xs : List V} {ds : List PyData}, RpA M xs ds → (xs.zip ds).map Prod.fst = xs ∧ (xs.zip ds).map Prod.snd = ds ∧ ∀ b ∈ xs.zip ds, Rp M b.1 b.2
  | _, _, .nil => ⟨rfl, rfl, fun b h => by cases h⟩
  | _, _, .cons r t => by
    obtain ⟨h1, h2, h3⟩ := rpa_zip2 t
    refine ⟨by rw [List.zip_cons_cons, List.map_cons, h1], by rw [List.zip_cons_cons, List.map_cons, h2], fun b h => ?_⟩
    rcases List.mem_cons.mp h with e | e
    · rw [e]; exact r
    · exact h3 b e
theorem rpa_of2 {M : Hp} : ∀ {bs : List (V × PyData)}, (∀ b ∈ bs, Rp M b.1 b.2) → RpA M (bs.map Prod.fst) (bs.map Prod.snd)
  | [], _ => .nil
  | b :: bs, h => .cons (h b List.mem_cons_self) (rpa_of2 fun x hx => h x (List.mem_cons_of_mem _ hx))
theorem pdSortF {X : Cx} {e : Expr} {f : Addr} {m : DM} {g : DF} {tk : TA} (htk : ∀ σ H Q, Q [V.ref f] H → tk σ H Q) (h : PE X e (tCKw (rSortDef X.K f (spD m)) (tCons (tD g) tNil) tk)) : PE X e (tD (dSortF m g)) := h.imp fun σ H Q ⟨c, A, n, ρ, Q', E, hf, k⟩ => by
  refine ⟨c, A, n, ρ, _, E, hf, fun v r n1 H1 ⟨ds, kk, ed, hal, hk, hdep, hm, hq⟩ f1 o1 => htk _ _ _ ⟨rfl, ?_⟩⟩
  have rp := o1.dat E ed
  have E1 := E.fr f1
  cases rp with
  | @lst l xs _ h1 h2 =>
    obtain ⟨z1, z2, z3⟩ := rpa_zip2 h2
    have zm : (xs.zip ds).map (fun b : V × PyData => kk b.2) = ds.map kk := by
      conv => rhs; rw [← z2]
      rw [List.map_map]
      rfl
    have zl : (xs.zip ds).length = ds.length := by rw [← List.length_map (f := Prod.snd), z2]
    refine ⟨l, xs.zip ds, fun b => kk b.2, fun i H2 us => Fr c n1 H1 H2 ∧ RpA (msk (c.av A) H2) us ((ds.take i).map kk), rfl, by rw [z1]; exact SqL.of (msk_some h1).2, by rw [zm]; exact hal, by rw [zm]; exact hk, fun y hy => hdep _ ?_, ⟨.refl E1.g, .nil⟩, fun i y H2 us hy ⟨fr, ru⟩ => ?_, fun H2 us ⟨fr, ru⟩ => ⟨?_, fun i u y hu hy => ?_, fun p hp => ?_⟩⟩
    · rw [← z2]
      exact List.mem_map.mpr ⟨y, hy, rfl⟩
    · have E2 := E1.fr fr
      have hyz := List.mem_of_getElem? hy
      have ry := (z3 y hyz).ex fr.msk
      have hd : ds[i]? = some y.2 := by
        rw [← z2, List.getElem?_map, hy]
        rfl
      refine ⟨E2.ec, n1, [.d y.2], fun r n' => r = .d (kk y.2) ∧ n' = n1, rfl, E2.g, rfl, .cons ry rfl .nil, hm y.2 (List.mem_of_getElem? hd) n1 _ ⟨rfl, rfl⟩, fun v r n' H' ⟨e1, e2⟩ f3 o3 => ?_⟩
      subst e1
      subst e2
      have f4 : Fr c n' H2 H' := f3
      refine ⟨fr.trans f4, ?_⟩
      rw [List.take_add_one, hd, List.map_append]
      exact (ru.ex f4.msk).app (.one o3)
    · rw [ru.length, List.length_map, zl, List.take_of_length_le (Nat.le_refl _)]
    · have hd : (ds.map kk)[i]? = some (kk y.2) := by
        rw [List.getElem?_map, ← z2, List.getElem?_map, hy]
        rfl
      rw [zl, List.take_of_length_le (Nat.le_refl _)] at ru
      obtain ⟨u', e1, e2⟩ := ru.get hd
      rw [hu] at e1
      cases e1
      exact up_msk e2
    · have E2 := E1.fr fr
      have es : ((xs.zip ds).mergeSort (PySem.W.dataLe false fun b : V × PyData => kk b.2)).map Prod.snd = ds.mergeSort (leKf kk) := by
        rw [List.map_mergeSort (r := PySem.W.dataLe false fun b : V × PyData => kk b.2) (s := leKf kk) (f := Prod.snd) (l := xs.zip ds) fun a _ b _ => rfl, z2]
      have rr : RpA (msk (c.av A) H2) (((xs.zip ds).mergeSort (PySem.W.dataLe false fun b : V × PyData => kk b.2)).map Prod.fst) (ds.mergeSort (leKf kk)) := by
        rw [← es]
        exact rpa_of2 fun b hb => (z3 b (List.mem_mergeSort.mp hb)).ex fr.msk
      exact k _ _ n1 _ hq (f1.trans (fr.trans (Fr.new E2.g hp))) (VOk.mono E (f1.trans fr) (own_new E2 hp rr))
end

/-! ### calls with keywords, by the number of values -/
section
variable [Fam] [Tabz]
/-- a call with keywords, by the number of values (KBn) -/
theorem vsOk_len {t : V} {B : Addr → Prop} {H H' : Hp} : ∀ {vs : List V} {rs : List DV}, VsOk t B H H' vs rs → vs.length = rs.length
  | _, _, .nil => rfl
  | _, _, .cons _ _ q => congrArg Nat.succ (vsOk_len q)
def dCallN (a b : Nat) (m : DM) (gD : List DV → List DV → List DV) (g h : DA) : DF := fun ρ n Q => g ρ n fun rs n1 => h ρ n1 fun ks n2 => (rs.length = a ∧ ks.length = b) ∧ plainR (gD rs ks) ∧ m (gD rs ks) n2 Q
theorem callN_le {a b : Nat} {m : DM} {gV : List V → List V → List V} {gD : List DV → List DV → List DV} {g h : DA} (hk : KwOk gV gD) (E0 : XK) (σ : L2.St) (H : Hp) (Q : VK) (q : tD (dCallN a b m gD g h) σ H Q) : tCallN a b (spD m) gV E0 (tDA g) (tDA h) σ H Q := by
  obtain ⟨c, A, n, ρ, Q', E, hf, k⟩ := q
  refine ⟨c, A, n, ρ, _, E, hf, fun vs rs n1 H1 h1 f1 o1 => ⟨c, A, n1, ρ, _, E.fr f1, h1, fun zs ks n2 H2 ⟨⟨l1, l2⟩, pl, hm⟩ f2 o2 => ?_⟩⟩
  have E2 := (E.fr f1).fr f2
  refine ⟨(vsOk_len o1).trans l1, (vsOk_len o2).trans l2, ?_⟩
  have oa : VsOk c.t (c.av A) H H2 (gV vs zs) (gD rs ks) := hk _ _ _ _ _ _ _ _ (o1.later E f1 f2) (o2.mono E f1)
  refine ⟨E2.ec, n2, gD rs ks, Q', rfl, E2.g, rfl, VsOk.now (m := n2) E oa pl, hm, fun v r n' H' hq f3 o3 => ?_⟩
  exact k v r n' H' hq ((f1.trans f2).trans f3) (VOk.mono E (f1.trans f2) o3)
theorem pdCallN {X : Cx} {CX : CXT} {k n : Nat} {f : Addr} {fd : FuncData} {ps ks : List Str} {gW : List Value → List Value → List Value} {gV : List V → List V → List V} {gD : List DV → List DV → List DV} {m : DM} {x : Str} {p pos : Pos} {e : Expr} {es : List Expr} {kws : List Keyword} {g h : DA} {E0 : XK} (hkw : KwOk gV gD) (F : FnOk X.prog X.w X.K X.mg X.base CX k f fd ps (spD m)) (hr : Room k X.A) (hg : Gl X x) (hm : X.mg x = some (.ref f)) (hk : PySem.W.keepIn X.K (.ref f) = true) (hb : KBn X.K fd ps n ks gW gV) (hx : Passes CX X E0)
    (ha : PA X (e :: es) (tDA g)) (hkws : PK X kws (tDA h)) (hall : (backToKw pos (keywordEach kws X.env)).all (·.1.isSome) = true := by rfl) (hks : (backToKw pos (keywordEach kws X.env)).filterMap (·.1) = ks := by rfl)
    (hdb : (x == ("__debug__" : Str)) = false := by decide) (he : starEach (e :: es) X.env = (false, eval e X.env) :: starEach es X.env := by rfl)
    (hpl : ((backTo pos (starEach (e :: es) X.env)).any (·.1) || (backToKw pos (keywordEach kws X.env)).any (·.1.isNone)) = false := by rfl) :
    PE X (.Call (.Name x p) (e :: es) kws pos) (tD (dCallN n ks.length m gD g h)) := (pe_callN F hr hg hm hk hb hx ha hkws hall hks hdb he hpl).imp (callN_le hkw E0)
theorem kw_app : KwOk (fun vs zs => vs ++ zs) (fun rs ks => rs ++ ks) := by
  intro t B H H' vs zs rs ks h1 h2
  induction h1 with
  | nil => exact h2
  | cons a b _ ih => exact .cons a b ih
end

/-! ### two dicts compared whose values are data, the same -/
section
variable {X : Cx} {pins : List (Addr × Obj)} {σ : L2.St} {H : Hp} {s : Shared}
theorem hits_data (I : Inv X pins σ H s) {A : Around} (hu : A.units + 20 < cLine) {ls : List (Key × V)} {vb : List (Key × Value)} (rb : KV ls vb) {ks : List (Key × V)} {va : List (Key × Value)} (ra : KV ks va) :
    (∀ p ∈ ks, ∃ u d, valV ls p.1 = some u ∧ Dp X.K H p.2 d ∧ Dp X.K H u d ∧ PySem.W.alike d d = true ∧ SeqAt.shaped d = true ∧ d.depth ≤ 10) → PySem.W.KeqHits A s vb va true := by
  unfold KV at ra
  induction ra with
  | nil => intro _; exact .nil
  | @cons p q ps qs h t ih =>
    intro hp
    obtain ⟨h1, h2⟩ := h
    obtain ⟨u, d, e, d1, d2, al, sh, dep⟩ := hp p List.mem_cons_self
    have rr : RelO (some u) (valueAt vb p.1) := by rw [← e]; exact rb.val p.1
    obtain ⟨y, hy, ry⟩ := rr.some_of
    obtain ⟨k, v⟩ := q
    have h1' : p.1 = k := h1
    rw [h1'] at hy
    obtain ⟨as, r1⟩ := Dp.reads I d p.2 v d1 h2
    obtain ⟨bs, r2⟩ := Dp.reads I d u y d2 ry
    have ee := PySem.W.eqAt_alike d d A s v y as bs r1 r2 al (by rw [Nat.min_self]; omega)
    rw [SeqAt.eqv_refl _ (SeqAt.canLay_of_shaped sh)] at ee
    show PySem.W.KeqHits A s vb ((k, v) :: qs) (true && true)
    exact .hit hy ee (ih fun p' hm => hp p' (List.mem_cons_of_mem _ hm))
def rNeDD (K : PySem.W.Frag) : R2 := fun x y H Q => ∃ a b ks ls, x = .ref a ∧ y = .ref b ∧ H a = some (.dK ks) ∧ H b = some (.dK ls) ∧ ks.length = ls.length ∧ (∀ p ∈ ks, ∃ u d, valV ls p.1 = some u ∧ Dp K H p.2 d ∧ Dp K H u d ∧ PySem.W.alike d d = true ∧ SeqAt.shaped d = true ∧ d.depth ≤ 10) ∧ Q (.bl false) H
theorem op_neDD (hu : X.A.units + 64 < cLine) : OpR X (compareOp .NotEq) (rNeDD X.K) := by
  intro pins s σ H x y v u Q I rx ry h
  obtain ⟨a, b, ks, ls, rfl, rfl, ea, eb, hlen, hp, q⟩ := h
  obtain rfl : v = Value.ref a := rx
  obtain rfl : u = Value.ref b := ry
  obtain ⟨_, ya, va, ra, da⟩ := (show ObjOk X.prog X.w H s.heap a (.dK ks) from I.hok a _ ea)
  obtain ⟨_, yb, vb, rb, db⟩ := (show ObjOk X.prog X.w H s.heap b (.dK ls) from I.hok b _ eb)
  have hl : va.length = vb.length := by rw [← ra.length, ← rb.length]; exact hlen
  exact PySem.W.keq_ne (knd := mixKind X.prog X.w) (r := true) ya yb da db (by omega) (fun _ => hits_data I (A := X.A.in1) (by show X.A.units + 1 + 20 < cLine; omega) rb ra hp) ⟨.bl false, H, I, by show _ = Value.bool false; simp [hl], q⟩
end
section
variable [Fam] [Tabz]
def dNeDic (f g : DF) : DF := fun ρ n Q => f ρ n fun x n1 => g ρ n1 fun y n2 => ∃ ks ls, x = .dic ks ∧ y = .dic ls ∧ ks.length = ls.length ∧ (∀ p ∈ ks, valD ls p.1 = some p.2 ∧ PySem.W.alike p.2 p.2 = true ∧ SeqAt.shaped p.2 = true ∧ p.2.depth ≤ 10) ∧ Q (.d (.bool false)) n2
theorem KRp.mem {M : Hp} : ∀ {ws : List (Key × V)} {kvs : List (Key × PyData)}, KRp M ws kvs → ∀ p ∈ ws, ∃ d, (p.1, d) ∈ kvs ∧ Rp M p.2 d
  | _, _, .nil, p, h => by cases h
  | _, _, .cons r t, p, h => by
    rcases List.mem_cons.mp h with e | e
    · rw [e]; exact ⟨_, List.mem_cons_self, r⟩
    · obtain ⟨d, h1, h2⟩ := KRp.mem t p e
      exact ⟨d, List.mem_cons_of_mem _ h1, h2⟩
theorem KRp.len {M : Hp} : ∀ {ws : List (Key × V)} {kvs : List (Key × PyData)}, KRp M ws kvs → ws.length = kvs.length
  | _, _, .nil => rfl
  | _, _, .cons _ t => congrArg Nat.succ (KRp.len t)
theorem ne_dic_le {K : PySem.W.Frag} {f g : DF} (σ : L2.St) (H : Hp) (Q : VK) (q : tD (dNeDic f g) σ H Q) : tOp (rNeDD K) (tD f) (tD g) σ H Q := by
  obtain ⟨c, A, n, ρ, Q', E, hf, k⟩ := q
  refine ⟨c, A, n, ρ, _, E, hf, fun v x n1 H1 hg f1 o1 => ⟨c, A, n1, ρ, _, E.fr f1, hg, fun w y n2 H2 hz f2 o2 => ?_⟩⟩
  obtain ⟨ks, ls, ex, ey, hl, hp, hq⟩ := hz
  have o1' := o1.later E f1 f2
  subst ex
  subst ey
  obtain ⟨a, ws, rfl, fa, ha, ra⟩ := o1'
  obtain ⟨b, us, rfl, fb, hb, rb⟩ := o2
  refine ⟨a, b, ws, us, rfl, rfl, ha, hb, by rw [ra.len, rb.len]; exact hl, fun p hpm => ?_, k _ _ n2 H2 hq (f1.trans f2) (Rp.bl _)⟩
  obtain ⟨d, h1, h2⟩ := ra.mem p hpm
  obtain ⟨g1, g2, g3, g4⟩ := hp _ h1
  rcases rb.val p.1 with ⟨_, z⟩ | ⟨u, d', e1, e3, e2⟩
  · rw [show valD ls p.1 = some d from g1] at z
    cases z
  · rw [show valD ls p.1 = some d from g1] at e3
    cases e3
    exact ⟨u, d, e1, (h2.ex msk_le).dp, (e2.ex msk_le).dp, g2, g3, g4⟩
theorem ptNeDic {X : Cx} {a b : Expr} {f g : DF} {pos : Pos} (hu : X.A.units + 64 < cLine) (ha : PE X a (tD f)) (hb : PE X b (tD g)) : PT X (.Compare a [.NotEq] [b] pos) (tDT (dTest (dNeDic f g))) :=
  (pt_cmpR (op_neDD hu) ha hb (nomark _)).imp fun σ H Q q => test_le ne_dic_le σ H Q q
end

/-! ### enumerate(tuple) -/
section
open PySem.Spec PyProof.Rows
open PySem.AutoSeq1 in
theorem enumT_new {t0 : Value} {ob : Obj} {Hq : Heap → Prop} (B : Begins t0 ob Hq) : Meets (Builtin.«enumerate.__new__» ⟨[.type "enumerate", t0], []⟩) (fun _ R z => Hq z.heap ∧
      R (.ok (.ret (.ref (z.heap.push ob).objs.size))) { z with heap := (z.heap.push ob).push { cls := .type "enumerate", data := .fields #[.none, .bool false, .ref z.heap.objs.size, rawInt 0, .none, .none] } }) :=
  .of_wp fun p0 w0 A0 R0 z0 hz0 => by
    obtain ⟨hp, g0, d0, tk0, os0⟩ := z0; obtain ⟨z1, hR⟩ := hz0
    have sub0 := sub_enumerate
    have it0 : ∀ {A' : Around} {E' : Value → Shared → Prop} {Q' : Value → Shared → Prop}, Q' (.ref hp.objs.size) ⟨hp.push ob, g0, d0, tk0, os0⟩ → wpAny (model p0 w0) A' (pyIter t0) Q' E' ⟨hp, g0, d0, tk0, os0⟩ :=
      fun q => B.iter p0 w0 _ _ ⟨hp, g0, d0, tk0, os0⟩ _ z1 q
    wp_walk using it0
    refine wpAny_stack_any fun st => wpAny_pure ?_
    split
    · rename_i c _ _ _ _ _
      cases (c == Value.type "enumerate") <;> (wp_walk using it0) <;> exact ⟨_, rfl, hR⟩
    · (wp_walk using it0); exact ⟨_, rfl, hR⟩
theorem enumT_call {prog : Program} {w : World} {A : Around} {E : Value → Shared → Prop} {s : Shared} {t0 : Value} {ob : Obj} {Hq : Heap → Prop} {Q : Value → Shared → Prop} (B : Begins t0 ob Hq) (h0 : Hq s.heap)
    (hh : ∀ g, IsEnum g (s.heap.objs.size + 1) s.heap.objs.size 0 .none → g.get? s.heap.objs.size = some ob → (∀ b o, s.heap.get? b = some o → g.get? b = some o) → Q (.ref (s.heap.objs.size + 1)) { s with heap := g }) :
    wpAny (model prog w) A (call (.type "enumerate") [t0]) Q E s := by
  refine callType_new F.called_enumerate (by decide) (F.typeCall_enumerate_1 _) (F.newCall_enumerate_1 _) (fun x => F.args_object_init_2 x _) F.entry_enumerate_new (enumT_new B) ⟨h0, ?_⟩
  have z1 : (s.heap.push ob).objs.size = s.heap.objs.size + 1 := Heap.size_push ..
  show _ ∧ _
  rw [z1]
  have he : IsEnum ((s.heap.push ob).push { cls := .type "enumerate", data := .fields #[.none, .bool false, .ref s.heap.objs.size, rawInt 0, .none, .none] }) (s.heap.objs.size + 1) s.heap.objs.size 0 .none := by
    have q := Heap.get?_push_size (s.heap.push ob) (o := { cls := .type "enumerate", data := .fields #[.none, .bool false, .ref s.heap.objs.size, rawInt 0, .none, .none] }) rfl
    rwa [z1] at q
  exact ⟨⟨_, he, rfl⟩, hh _ he (Heap.get?_push_of_some _ (Heap.get?_push_size _ B.free)) fun b o x => Heap.get?_push_of_some _ (Heap.get?_push_of_some _ x)⟩
def IteT (K : PySem.W.Frag) (a : Addr) : It :=
  ⟨fun i H => ∃ (xs : List V) (x : V), SqT K H a xs ∧ xs[i]? = some x, fun i H v H' => ∃ T x, v = .ref T ∧ H T = none ∧ H' = upd H T (.tup [.int (i : Nat), x]) ∧ ∀ xs, SqT K H a xs → xs[i]? = some x, fun i H => ∃ xs : List V, SqT K H a xs ∧ xs.length = i⟩
theorem turn_enumT {P : Program} {w : World} {K : PySem.W.Frag} {elts : List Expr} {kk : Nat} {tpos : Pos} (a e it : Addr) (ha : a ≠ it ∧ a ≠ e) :
    Turn P w K (.Tuple elts kk tpos) (IteT K a) [e, it] e (fun i h => (∃ old, IsEnum h e it ((i : Nat) : Int) old) ∧ h.IsTupleIter it a i ∧ e ≠ it) where
  mem := by simp
  obj := fun i h sq b hb => by
    obtain ⟨⟨old, hen⟩, ⟨o1, ho1, _, hd1⟩, _⟩ := sq
    rcases (show b = e ∨ b = it by simpa using hb) with z | z
    · rw [z]; exact ⟨_, hen, fun v q => nomatch q⟩
    · rw [z]; exact ⟨o1, ho1, fun v q => by rw [hd1] at q; cases q⟩
  keep := fun i h h' sq k => let ⟨⟨old, hen⟩, hti, hne⟩ := sq; ⟨⟨old, k e (by simp) _ hen⟩, hti.at fun o q => k it (by simp) o q, hne⟩
  item := by
    intro X hP hw hK hc i pins s σ H E I hf sq hitem
    subst hP hw hK
    obtain ⟨⟨old, hen⟩, hti, hne⟩ := sq
    obtain ⟨xs, x, hsq, hx⟩ := hitem
    obtain ⟨its, rv, pt, hz⟩ := I.tuple hsq
    obtain ⟨u, hu, ru⟩ := rv.get hx
    have ltE : e < s.heap.objs.size := Heap.lt_size hen
    have ltI : it < s.heap.objs.size := by obtain ⟨_, q, _⟩ := hti; exact Heap.lt_size q
    have ltN : i < its.toArray.size := by
      have := (List.getElem?_eq_some_iff.mp hu).1
      rwa [List.size_toArray]
    have D := Draws.tuple (prog := X.prog) (w := X.w) (A := X.A.in1) (I.ok.hd hc) it a ha.1 its.toArray
    refine wpAny_pyNext_enum_itemD D hen ⟨hti, pt⟩ ltN hne (by simp; exact ⟨hne, ha.2.symm⟩) fun u' h' tk hu' ho sq' hT hsz hk => ?_
    have eu : u' = u := by
      have hu2 : its.toArray[i]? = some u := by simpa using hu
      have hu' : its.toArray[i]? = some u' := hu'
      rw [hu2] at hu'
      exact (Option.some.inj hu').symm
    subst eu
    refine ⟨_, rfl, wpAny_letOwnedTupleGo_enum (s := { s with heap := h', toks := tk + 1 }) ho fun h2 hen2 sb => ?_⟩
    have hT2 : h2.get? s.heap.objs.size = some { cls := .type "tuple", data := .seq #[.int i tk, u'] } := (sb.2 _ (Nat.ne_of_gt ltE)).trans hT
    have new : ObjOk X.prog X.w (upd H s.heap.objs.size (.tup [.int (i : Nat), x])) h2 s.heap.objs.size (.tup [.int (i : Nat), x]) :=
      ⟨by show 2 ≤ sizeLine; decide, [.int i tk, u'], .cons ⟨_, rfl⟩ (.cons ru .nil), ⟨_, hT2, rfl, _, rfl⟩⟩
    have I1 : Inv X pins σ (upd H s.heap.objs.size (.tup [.int (i : Nat), x])) { s with heap := h2, toks := tk + 1 } :=
      I.turnedNew (ch := [e, it]) (fun b o9 hb q => (sb.2 b (fun z => hb (by simp [z]))).trans (hk b o9 (fun z => hb (by simp [z])) (fun z => hb (by simp [z])) q)) hf (Nat.le_refl _) new
    refine ⟨.ref s.heap.objs.size, _, I1, rfl, ⟨_, x, rfl, I.hok.fresh (Nat.le_refl _), rfl, fun ys hy => by rw [I.tuple_inj hy hsq]; exact hx⟩, ⟨⟨u', ?_⟩, sq'.1.at fun o q => (sb.2 it (Ne.symm hne)).trans q, hne⟩, fun b hb => ?_⟩
    · rw [show ((i + 1 : Nat) : Int) = (i : Int) + 1 by omega]; exact hen2
    · have hb' : b < s.heap.objs.size := by
        rcases (show b = e ∨ b = it by simpa using hb) with z | z
        · rw [z]; exact ltE
        · rw [z]; exact ltI
      rw [upd_ne (Nat.ne_of_lt hb')]
      exact (hf b hb).1
  done := by
    intro X hP hw hK hc i pins s σ H E I hf sq hend
    subst hP hw hK
    obtain ⟨⟨old, hen⟩, hti, hne⟩ := sq
    obtain ⟨xs, hsq, hx⟩ := hend
    obtain ⟨its, rv, pt, hz⟩ := I.tuple hsq
    obtain ⟨f0, f1, f2, f3, f4, f5⟩ := hf it (by simp)
    have D := Draws.tuple (prog := X.prog) (w := X.w) (A := X.A.in1) (I.ok.hd hc) it a ha.1 its.toArray
    have en : i = its.toArray.size := by rw [List.size_toArray, ← rv.length, hx]
    exact wpAny_pyNext_enum_endD D hen (by rw [← en]; exact ⟨hti, pt⟩) fun h' eb => ⟨rfl, I.turned (t' := s.toks) (fun b o hb q => eb b o hb q) f0 f1 f3 f4 f5⟩
  self := fun A i s Q E sq h => let ⟨⟨_, hen⟩, _⟩ := sq; wpAny_pyIter_enum hen h
def iEnumT (K : PySem.W.Frag) (ta : TA) : TI := fun σ H R => ta σ H fun vs H1 => ∃ a xs, vs = [.ref a] ∧ SqT K H1 a xs ∧ R (IteT K a) H1
theorem pi_enumT {X : Cx} {e : Expr} {ta : TA} {p pos tpos : Pos} {elts : List Expr} {kk : Nat} (hg : Gl X "enumerate") (hm : X.mg "enumerate" = none) (ha : PA X [e] ta) (hs : starEach [e] X.env = [(false, eval e X.env)] := by rfl) :
    PI X (.Tuple elts kk tpos) (.Call (.Name "enumerate" p) [e] [] pos) (iEnumT X.K ta) := by
  refine ⟨fun pins s σ H R I h => Call_ (ld_blt I hg hm boot_enumerate (PyProof.Rows.callWith_type1 (thn (ha.run pos pins s σ H _ I h) fun us s1 ⟨vs, H1, I1, r1, q1⟩ => ?_) hs rfl))⟩
  obtain ⟨a, xs, ex, hsq, q⟩ := q1
  subst ex
  cases r1 with
  | cons r rr =>
    cases rr
    cases r
    obtain ⟨its, rv, pt, hz⟩ := I1.tuple hsq
    refine enumT_call (begins_tuple a its.toArray) pt fun h' hen hob hk => wpAny_pyIter_enum hen ?_
    have I2 : Inv X pins σ H1 { s1 with heap := h' } := I1.kept (t' := s1.toks) hk
    have la : a < s1.heap.objs.size := by obtain ⟨o, ho, _⟩ := pt; exact Heap.lt_size ho
    refine ⟨s1.heap.objs.size + 1, [s1.heap.objs.size + 1, s1.heap.objs.size], _, _, H1, rfl, I2, turn_enumT a (s1.heap.objs.size + 1) s1.heap.objs.size ⟨Nat.ne_of_lt la, Nat.ne_of_lt (Nat.lt_succ_of_lt la)⟩, ⟨⟨.none, hen⟩, ⟨_, hob, rfl, rfl⟩, Nat.succ_ne_self _⟩, fun b hb => ?_, q⟩
    have hle : s1.heap.objs.size ≤ b := by
      rcases (show b = s1.heap.objs.size + 1 ∨ b = s1.heap.objs.size by simpa using hb) with z | z
      · rw [z]; exact Nat.le_succ _
      · rw [z]; exact Nat.le_refl _
    exact I1.fpOk hle (I1.hok.fresh hle)
end
section
variable [Fam] [Tabz]
def dEnumT (g : DA) : DI := fun ρ n Q => g ρ n fun rs n1 => ∃ ds, datsOf rs = some [.tuple ds] ∧ Q (enumD ds) n1
theorem piEnumT {X : Cx} {tg e : Expr} {g : DA} (h : PI X tg e (iEnumT X.K (tDA g))) : PI X tg e (iD (dEnumT g)) := h.imp fun σ H R ⟨c, A, n, ρ, Q', E, hf, k⟩ => by
  refine ⟨c, A, n, ρ, _, E, hf, fun vs rs n1 H1 ⟨ds, e1, q1⟩ f1 o1 => ?_⟩
  have rpa := o1.dats E e1
  cases rpa with
  | cons r t =>
    cases t
    cases r with
    | @tup a xs _ t2 t3 =>
      refine ⟨a, xs, rfl, SqT.of (msk_some t2).2, k _ _ n1 H1 [(.ref a, .tuple ds)] q1 f1 (fun p hp => by rw [List.mem_singleton.mp hp]; exact .tup t2 t3) fun A n σ H ρ E' => ?_⟩
      have pd := E'.pinned (p := (.ref a, .tuple ds)) (List.mem_singleton.mpr rfl)
      cases pd with
      | @tup _ ys _ g2 g3 =>
        have gl := g3.length
        have gs := SqT.of (K := X.K) (msk_some g2).2
        refine ⟨fun i d hd => ?_, ⟨ys, gs, by rw [enumD_len, ← gl]⟩⟩
        have hi : i < ds.length := by
          have := (List.getElem?_eq_some_iff.mp hd).1
          rwa [enumD_len] at this
        unfold enumD at hd
        rw [List.getElem?_map, List.getElem?_range hi] at hd
        cases hd
        obtain ⟨y, e2, r2⟩ := g3.get (List.getElem?_eq_getElem hi)
        refine ⟨⟨ys, y, gs, e2⟩, fun x H2 yl => ?_⟩
        obtain ⟨T, w, rfl, hT, rfl, hw⟩ := yl
        have hw' := hw ys gs
        rw [e2] at hw'
        cases hw'
        refine ⟨same_new hT, ?_⟩
        show Rp _ _ (.tuple [.int (i : Nat), ds.getD i .none])
        rw [show ds.getD i .none = ds[i] by rw [List.getD_eq_getElem?_getD, List.getElem?_eq_getElem hi]; rfl]
        exact new_pair E' hT (.int _) r2
end

/-! ### [h x for x in xs if p x] -/
section
variable [Fam] [Tabz]
theorem lcFM {g : DG} {t : DT} {h : DF} {vs : List Nat} {ρ : List DV} {n : Int} {Q : DQ} {ds : List PyData} (p : PyData → Bool) (out : PyData → PyData) (own : (vs.all fun j => match ρ[j]? with | some x => !x.isOwn | none => false) = true) (big : ds.length ≤ 100000)
    (step : ∀ d, d ∈ ds → ∃ ρ', g d (wipeD ρ vs) = some ρ' ∧ (∀ R : Bool → Int → Prop, R (p d) n → t ρ' n R) ∧ (p d = true → ∀ R : DQ, (∀ r, r.dat = some (out d) → R r n) → h ρ' n R)) (q : Q (.own ((ds.filter p).map out)) n) : LcOk g t h vs ρ Q ds n := by
  refine ⟨own, big, fun i acc m => m = n ∧ acc = ((ds.take i).filter p).map out, ⟨rfl, rfl⟩, ?_, ?_⟩
  · rintro i d acc m hd ⟨rfl, rfl⟩
    obtain ⟨ρ', e1, h1, h2⟩ := step d (List.mem_of_getElem? hd)
    refine ⟨ρ', e1, h1 _ ?_⟩
    have et : ((ds.take (i + 1)).filter p).map out = ((ds.take i).filter p).map out ++ if p d = true then [out d] else [] := by
      rw [List.take_succ, hd, List.filter_append, List.map_append]
      congr 1
      cases e : p d with
      | true => simp [e]
      | false => simp [e]
    cases e : p d with
    | true =>
      rw [if_pos rfl]
      refine h2 e _ fun r er => ⟨_, er, rfl, ?_⟩
      rw [et, e, if_pos rfl]
    | false =>
      rw [if_neg Bool.false_ne_true]
      refine ⟨rfl, ?_⟩
      rw [et, e, if_neg Bool.false_ne_true, List.append_nil]
  · rintro acc m ⟨rfl, rfl⟩
    rw [List.take_length] at *
    exact q
end

/-! ### tuple(xs) over data -/
section
variable [Fam] [Tabz]
def bTuple : List PyData → Option DV
  | [.list ds] => some (.d (.tuple ds))
  | [.tuple ds] => some (.d (.tuple ds))
  | _ => none
theorem rsTuple {K : PySem.W.Frag} : RsD (fun xs H Q => ∃ p ys, xs = [.ref p] ∧ ((SqL K H p ys ∧ ∀ l, H l = none → Q (.ref l) (upd H l (.tup ys))) ∨ (SqT K H p ys ∧ Q (.ref p) H))) bTuple := by
  intro t B H vs as z Q hB r e k
  cases r with
  | nil => cases e
  | cons r t =>
    cases t with
    | cons _ _ => cases r <;> cases e
    | nil =>
      cases r <;> cases e
      · rename_i h1 h2
        exact ⟨_, _, rfl, .inl ⟨SqL.of (msk_some h1).2, fun l hl => k _ _ (same_new hl) (new_tup hB hl h2)⟩⟩
      · rename_i h1 h2
        exact ⟨_, _, rfl, .inr ⟨SqT.of (msk_some h1).2, k _ H (fun _ _ h => h) (.tup h1 h2)⟩⟩
end

structure Txt (mg : Str → Option Value) : Prop where
  b_len : mg "len" = none
  b_max : mg "max" = none
  b_min : mg "min" = none
  b_range : mg "range" = none
  b_bool : mg "bool" = none
  b_isinstance : mg "isinstance" = none
  b_int : mg "int" = none
  b_all : mg "all" = none
  b_list : mg "list" = none
  b_tuple : mg "tuple" = none
  b_zip : mg "zip" = none
  b_sorted : mg "sorted" = none
  b_sum : mg "sum" = none
  b_abs : mg "abs" = none
  b_enumerate : mg "enumerate" = none
  b_set : mg "set" = none
  mg_BUY : ∃ t, mg "BUY" = some (.str "buy" t)
  mg_SELL : ∃ t, mg "SELL" = some (.str "sell" t)
  mg_RANK : ∃ t, mg "RANK" = some (.str "rank" t)
  mg_SHARE : ∃ t, mg "SHARE" = some (.str "share" t)
  mg_OLD : ∃ t, mg "OLD" = some (.str "old" t)
  mg_NEW : ∃ t, mg "NEW" = some (.str "new" t)
  mg_BOTH : ∃ t, mg "BOTH" = some (.str "both" t)
  mg_LESS : ∃ t, mg "LESS" = some (.str "less" t)
section
variable [Fam] [Tabz] {P : Program} {w : World} {K : PySem.W.Frag} {mg : Str → Option Value} {base : Heap}
local macro_rules | `(tactic| walk_at "d") => `(tactic| first | refine Or.inl ⟨_, rfl, ?_⟩ | refine ⟨Nat.le_of_ble_eq_true rfl, ?_⟩ | refine ⟨_, rfl, ?_⟩)
/-! ### the plain rule: data -/
def datP : Option Int → PyData
  | none => .none
  | some i => .int i
structure Row where
  num : Int
  who : Str
  side : Str
  price : Int
  part : Option Int
  left : Int
  seen : Int
  rank : Int
def Row.dat (r : Row) : PyData := .tuple [.int r.num, .str r.who, .str r.side, .int r.price, datP r.part, .int r.left, .int r.seen, .int r.rank]
structure Com where
  num : Int
  who : Str
  side : Str
  price : Option Int
  left : Int
  guard : Str
def Com.dat (c : Com) : PyData := .tuple [.int c.num, .str c.who, .str c.side, datP c.price, .int c.left, .str c.guard]
inductive Evt where
  | trade (b s p a : Int) | shown (m n : Int) | off (m a : Int) | less (r c a : Int)
def Evt.dat : Evt → PyData
  | .trade b s p a => .tuple [.str "trade", .int b, .int s, .int p, .int a]
  | .shown m n => .tuple [.str "shown", .int m, .int n]
  | .off m a => .tuple [.str "off", .int m, .int a, .str "guard"]
  | .less r c a => .tuple [.str "less", .int r, .int c, .int a]
def dRows (rs : List Row) : PyData := .list (rs.map Row.dat)
def dEvts (es : List Evt) : PyData := .list (es.map Evt.dat)
def letsM (p : Option Int) (side : Str) (o : Int) : Bool := match p with | some p => if side = "buy" then decide (o ≤ p) else decide (p ≤ o) | _ => true
def mLets : DM := fun rs n Q => ∃ (p : Option Int) (s : Str) (o : Int), rs = [.d (datP p), .d (.str s), .d (.int o)] ∧ Q (.d (.bool (letsM p s o))) n
theorem plain1 {a : PyData} : plainR [.d a] ∧ [DV.d a].length = 1 := plainOf_R (ds := [a]) rfl
theorem plain2 {a b : PyData} : plainR [.d a, .d b] ∧ [DV.d a, .d b].length = 2 := plainOf_R (ds := [a, b]) rfl
theorem plain3 {a b c : PyData} : plainR [.d a, .d b, .d c] ∧ [DV.d a, .d b, .d c].length = 3 := plainOf_R (ds := [a, b, c]) rfl
theorem plain4 {a b c d : PyData} : plainR [.d a, .d b, .d c, .d d] ∧ [DV.d a, .d b, .d c, .d d].length = 4 := plainOf_R (ds := [a, b, c, d]) rfl
theorem L_lets : ∀ rs n Q, mLets rs n Q → plainR rs ∧ rs.length = 3 := by
  rintro rs n Q ⟨p, s, o, rfl, h⟩
  exact plain3
abbrev s_lets : Stmt := topS 10
theorem sc_lets : FnScope ["price", "side", "other"] ["price", "side", "other"] (defScope s_lets) := ⟨rfl, rfl, rfl, by decide +kernel, rfl, by decide +kernel, by decide +kernel⟩
theorem ok_lets {f : Addr} {fd : FuncData} (F : Fun K "lets" "lets" s_lets f fd) (T : Txt mg) : FnOk P w K mg base CX0 1 f fd ["price", "side", "other"] (spD mLets) := by
  apply okD F sc_lets L_lets
  case body =>
    intro cdv A outer s H E hr
    obtain ⟨_, mG_BUY⟩ := T.mg_BUY
    exact (psCons (psIf (ptCmp r2IsN op_isN (pdV (pv 0)) (pdC pe_non) (nomark _)) (psOne (psRet (pdC pe_bl))) psNil)
          (psCons (psIf (ptCmp r2Eq op_eq (pdV (pv 1)) (pdC (pe_glob (v := .str "buy") (by rfl) mG_BUY ⟨_, rfl⟩)) (nomark _)) (psOne (psRet (pdCmp r2Ge op_ge (pdV (pv 0)) (pdV (pv 2)) (nomark _)))) psNil)
          (psOne (psRet (pdCmp r2Le op_le (pdV (pv 0)) (pdV (pv 2)) (nomark _))))))
  case data =>
    rintro rs n Q ⟨p, s, o, rfl, h⟩
    cases p with
    | none =>
      simp only [dSeq, dIfS, dTest, dBin, dUn, dV, dC, dRet, dNext, dSet, dAug, dIf, dAnd, dOr, dNot, dAndV, dOrV, dNotV, dLst, dTup, dNil, dCons, dB, dCall, dPar, dPar3, dAsg, dExp, dPk, datsOf, DV.dat, DV.cold, List.cons_append, List.nil_append, List.append_nil, List.length_cons, List.length_nil, List.replicate_succ, List.replicate_zero, List.replicate, Nat.reduceAdd, Nat.reduceSub, Nat.reduceLT, Nat.reduceLeDiff, List.getElem?_cons_zero, List.getElem?_cons_succ, List.set_cons_zero, List.set_cons_succ, Option.some.injEq, DV.d.injEq, DV.own.injEq, PyData.bool.injEq, PyData.int.injEq, PyData.str.injEq, PyData.list.injEq, PyData.tuple.injEq, exists_eq_left, exists_eq_left', exists_eq_right, exists_eq_right', true_and, and_true, or_false, false_or, reduceCtorEq, exists_false, false_and, and_false, opI, opIc, opNeg, opEq, opNe, sEq, opIsN, isN, Option.map_some, Option.map, decide_true, decide_false, decide_eq_true_eq, if_true, if_false, ite_true, ite_false, Bool.false_eq_true, Bool.not_true, Bool.not_false, if_pos, gTp, gMore, gN, gNone, opIxT, opIxL, atI, ixN, b2I, bAbs, bLen, bSum, intsOf, bList, datP]
      exact h
    | some p =>
      simp only [dSeq, dIfS, dTest, dBin, dUn, dV, dC, dRet, dNext, dSet, dAug, dIf, dAnd, dOr, dNot, dAndV, dOrV, dNotV, dLst, dTup, dNil, dCons, dB, dCall, dPar, dPar3, dAsg, dExp, dPk, datsOf, DV.dat, DV.cold, List.cons_append, List.nil_append, List.append_nil, List.length_cons, List.length_nil, List.replicate_succ, List.replicate_zero, List.replicate, Nat.reduceAdd, Nat.reduceSub, Nat.reduceLT, Nat.reduceLeDiff, List.getElem?_cons_zero, List.getElem?_cons_succ, List.set_cons_zero, List.set_cons_succ, Option.some.injEq, DV.d.injEq, DV.own.injEq, PyData.bool.injEq, PyData.int.injEq, PyData.str.injEq, PyData.list.injEq, PyData.tuple.injEq, exists_eq_left, exists_eq_left', exists_eq_right, exists_eq_right', true_and, and_true, or_false, false_or, reduceCtorEq, exists_false, false_and, and_false, opI, opIc, opNeg, opEq, opNe, sEq, opIsN, isN, Option.map_some, Option.map, decide_true, decide_false, decide_eq_true_eq, if_true, if_false, ite_true, ite_false, Bool.false_eq_true, Bool.not_true, Bool.not_false, if_pos, gTp, gMore, gN, gNone, opIxT, opIxL, atI, ixN, b2I, bAbs, bLen, bSum, intsOf, bList, datP]
      simp only [letsM] at h
      split <;> simp_all
def agM (s : Str) : Str := if s = "buy" then "sell" else "buy"
def mAg : DM := fun rs n Q => ∃ s : Str, rs = [.d (.str s)] ∧ Q (.d (.str (agM s))) n
theorem L_against : ∀ rs n Q, mAg rs n Q → plainR rs ∧ rs.length = 1 := by
  rintro rs n Q ⟨s, rfl, h⟩
  exact plain1
abbrev s_against : Stmt := topS 13
theorem sc_against : FnScope ["side"] ["side"] (defScope s_against) := ⟨rfl, rfl, rfl, by decide +kernel, rfl, by decide +kernel, by decide +kernel⟩
theorem ok_against {f : Addr} {fd : FuncData} (F : Fun K "against" "against" s_against f fd) (T : Txt mg) : FnOk P w K mg base CX0 1 f fd ["side"] (spD mAg) := by
  apply okD F sc_against L_against
  case body =>
    intro cdv A outer s H E hr
    obtain ⟨_, mG_BUY⟩ := T.mg_BUY
    obtain ⟨_, mG_SELL⟩ := T.mg_SELL
    exact (psOne (psRet (pdIf (ptCmp r2Eq op_eq (pdV (pv 0)) (pdC (pe_glob (v := .str "buy") (by rfl) mG_BUY ⟨_, rfl⟩)) (nomark _)) (pdC (pe_glob (v := .str "sell") (by rfl) mG_SELL ⟨_, rfl⟩)) (pdC (pe_glob (v := .str "buy") (by rfl) mG_BUY ⟨_, rfl⟩)))))
  case data =>
    rintro rs n Q ⟨s, rfl, h⟩
    simp only [dSeq, dIfS, dTest, dBin, dUn, dV, dC, dRet, dNext, dSet, dAug, dIf, dAnd, dOr, dNot, dAndV, dOrV, dNotV, dLst, dTup, dNil, dCons, dB, dCall, dPar, dPar3, dAsg, dExp, dPk, datsOf, DV.dat, DV.cold, List.cons_append, List.nil_append, List.append_nil, List.length_cons, List.length_nil, List.replicate_succ, List.replicate_zero, List.replicate, Nat.reduceAdd, Nat.reduceSub, Nat.reduceLT, Nat.reduceLeDiff, List.getElem?_cons_zero, List.getElem?_cons_succ, List.set_cons_zero, List.set_cons_succ, Option.some.injEq, DV.d.injEq, DV.own.injEq, PyData.bool.injEq, PyData.int.injEq, PyData.str.injEq, PyData.list.injEq, PyData.tuple.injEq, exists_eq_left, exists_eq_left', exists_eq_right, exists_eq_right', true_and, and_true, or_false, false_or, reduceCtorEq, exists_false, false_and, and_false, opI, opIc, opNeg, opEq, opNe, sEq, opIsN, isN, Option.map_some, Option.map, decide_true, decide_false, decide_eq_true_eq, if_true, if_false, ite_true, ite_false, Bool.false_eq_true, Bool.not_true, Bool.not_false, if_pos, gTp, gMore, gN, gNone, opIxT, opIxL, atI, ixN, b2I, bAbs, bLen, bSum, intsOf, bList]
    simp only [agM] at h
    split <;> simp_all
def farM (p : Int) (band : Option Int) (anchor : Int) : Bool := match band with | none => false | some b => decide (b < (if p - anchor < 0 then -(p - anchor) else p - anchor))
def mFar : DM := fun rs n Q => ∃ (p : Int) (band : Option Int) (anchor : PyData) (a : Int), rs = [.d (.int p), .d (datP band), .d anchor] ∧ (band.isSome = true → anchor = .int a) ∧ Q (.d (.bool (farM p band a))) n
theorem L_too_far : ∀ rs n Q, mFar rs n Q → plainR rs ∧ rs.length = 3 := by
  rintro rs n Q ⟨p, b, x, a, rfl, h⟩
  exact plain3
abbrev s_too_far : Stmt := topS 14
theorem sc_too_far : FnScope ["price", "band", "anchor"] ["price", "band", "anchor"] (defScope s_too_far) := ⟨rfl, rfl, rfl, by decide +kernel, rfl, by decide +kernel, by decide +kernel⟩
theorem ok_far {f : Addr} {fd : FuncData} (F : Fun K "too_far" "too_far" s_too_far f fd) (T : Txt mg) : FnOk P w K mg base CX0 1 f fd ["price", "band", "anchor"] (spD mFar) := by
  apply okD F sc_too_far L_too_far
  case body =>
    intro cdv A outer s H E hr
    exact (psOne (psRet (pdAnd (pdCmp r2NotN op_notN (pdV (pv 1)) (pdC pe_non) (nomark _)) (pe_one (pdCmp r2Gt op_gt (pdB rsAbs call_abs (by rfl) T.b_abs (by decide +kernel) (paCons (pdOp r2Sub op_sub (pdV (pv 0)) (pdV (pv 2))) paNil)) (pdV (pv 1)) (nomark _))))))
  case data =>
    rintro rs n Q ⟨p, b, x, a, rfl, hx, h⟩
    cases b with
    | none =>
      simp only [dSeq, dIfS, dTest, dBin, dUn, dV, dC, dRet, dNext, dSet, dAug, dIf, dAnd, dOr, dNot, dAndV, dOrV, dNotV, dLst, dTup, dNil, dCons, dB, dCall, dPar, dPar3, dAsg, dExp, dPk, datsOf, DV.dat, DV.cold, List.cons_append, List.nil_append, List.append_nil, List.length_cons, List.length_nil, List.replicate_succ, List.replicate_zero, List.replicate, Nat.reduceAdd, Nat.reduceSub, Nat.reduceLT, Nat.reduceLeDiff, List.getElem?_cons_zero, List.getElem?_cons_succ, List.set_cons_zero, List.set_cons_succ, Option.some.injEq, DV.d.injEq, DV.own.injEq, PyData.bool.injEq, PyData.int.injEq, PyData.str.injEq, PyData.list.injEq, PyData.tuple.injEq, exists_eq_left, exists_eq_left', exists_eq_right, exists_eq_right', true_and, and_true, or_false, false_or, reduceCtorEq, exists_false, false_and, and_false, opI, opIc, opNeg, opEq, opNe, sEq, opIsN, isN, Option.map_some, Option.map, decide_true, decide_false, decide_eq_true_eq, if_true, if_false, ite_true, ite_false, Bool.false_eq_true, Bool.not_true, Bool.not_false, if_pos, gTp, gMore, gN, gNone, opIxT, opIxL, atI, ixN, b2I, bAbs, bLen, bSum, intsOf, bList, datP]
      exact h
    | some b =>
      have := hx rfl
      subst this
      simp only [dSeq, dIfS, dTest, dBin, dUn, dV, dC, dRet, dNext, dSet, dAug, dIf, dAnd, dOr, dNot, dAndV, dOrV, dNotV, dLst, dTup, dNil, dCons, dB, dCall, dPar, dPar3, dAsg, dExp, dPk, datsOf, DV.dat, DV.cold, List.cons_append, List.nil_append, List.append_nil, List.length_cons, List.length_nil, List.replicate_succ, List.replicate_zero, List.replicate, Nat.reduceAdd, Nat.reduceSub, Nat.reduceLT, Nat.reduceLeDiff, List.getElem?_cons_zero, List.getElem?_cons_succ, List.set_cons_zero, List.set_cons_succ, Option.some.injEq, DV.d.injEq, DV.own.injEq, PyData.bool.injEq, PyData.int.injEq, PyData.str.injEq, PyData.list.injEq, PyData.tuple.injEq, exists_eq_left, exists_eq_left', exists_eq_right, exists_eq_right', true_and, and_true, or_false, false_or, reduceCtorEq, exists_false, false_and, and_false, opI, opIc, opNeg, opEq, opNe, sEq, opIsN, isN, Option.map_some, Option.map, decide_true, decide_false, decide_eq_true_eq, if_true, if_false, ite_true, ite_false, Bool.false_eq_true, Bool.not_true, Bool.not_false, if_pos, gTp, gMore, gN, gNone, opIxT, opIxL, atI, ixN, b2I, bAbs, bLen, bSum, intsOf, bList, datP]
      exact h
def partM (shown : Option Int) (left : Int) : Int := match shown with | none => left | some s => if left < s then left else s
def mPart : DM := fun rs n Q => ∃ (s : Option Int) (l : Int), rs = [.d (datP s), .d (.int l)] ∧ Q (.d (.int (partM s l))) n
theorem L_part_seen : ∀ rs n Q, mPart rs n Q → plainR rs ∧ rs.length = 2 := by
  rintro rs n Q ⟨s, l, rfl, h⟩
  exact plain2
abbrev s_part_seen : Stmt := topS 23
theorem sc_part_seen : FnScope ["shown", "left"] ["shown", "left"] (defScope s_part_seen) := ⟨rfl, rfl, rfl, by decide +kernel, rfl, by decide +kernel, by decide +kernel⟩
theorem ok_part {f : Addr} {fd : FuncData} (F : Fun K "part_seen" "part_seen" s_part_seen f fd) (T : Txt mg) : FnOk P w K mg base CX0 1 f fd ["shown", "left"] (spD mPart) := by
  apply okD F sc_part_seen L_part_seen
  case body =>
    intro cdv A outer s H E hr
    exact (psOne (psRet (pdIf (ptCmp r2IsN op_isN (pdV (pv 0)) (pdC pe_non) (nomark _)) (pdV (pv 1)) (pdB rs2I (call_min2 rfl) (by rfl) T.b_min (by decide +kernel) (paCons (pdV (pv 0)) (paCons (pdV (pv 1)) paNil))))))
  case data =>
    rintro rs n Q ⟨s, l, rfl, h⟩
    cases s <;> simp only [dSeq, dIfS, dTest, dBin, dUn, dV, dC, dRet, dNext, dSet, dAug, dIf, dAnd, dOr, dNot, dAndV, dOrV, dNotV, dLst, dTup, dNil, dCons, dB, dCall, dPar, dPar3, dAsg, dExp, dPk, datsOf, DV.dat, DV.cold, List.cons_append, List.nil_append, List.append_nil, List.length_cons, List.length_nil, List.replicate_succ, List.replicate_zero, List.replicate, Nat.reduceAdd, Nat.reduceSub, Nat.reduceLT, Nat.reduceLeDiff, List.getElem?_cons_zero, List.getElem?_cons_succ, List.set_cons_zero, List.set_cons_succ, Option.some.injEq, DV.d.injEq, DV.own.injEq, PyData.bool.injEq, PyData.int.injEq, PyData.str.injEq, PyData.list.injEq, PyData.tuple.injEq, exists_eq_left, exists_eq_left', exists_eq_right, exists_eq_right', true_and, and_true, or_false, false_or, reduceCtorEq, exists_false, false_and, and_false, opI, opIc, opNeg, opEq, opNe, sEq, opIsN, isN, Option.map_some, Option.map, decide_true, decide_false, decide_eq_true_eq, if_true, if_false, ite_true, ite_false, Bool.false_eq_true, Bool.not_true, Bool.not_false, if_pos, gTp, gMore, gN, gNone, opIxT, opIxL, atI, ixN, b2I, bAbs, bLen, bSum, intsOf, bList, datP] <;> exact h
def hidM (r : Row) (a : Int) : Row := { r with left := r.left - a, seen := if r.left - a < r.seen then r.left - a else r.seen }
def seenM (r : Row) (a : Int) : Row := { r with left := r.left - a, seen := if r.seen - a > 0 then r.seen - a else 0 }
def mHid : DM := fun rs n Q => ∃ (r : Row) (a : Int), rs = [.d r.dat, .d (.int a)] ∧ Q (.d (hidM r a).dat) n
def mSeen : DM := fun rs n Q => ∃ (r : Row) (a : Int), rs = [.d r.dat, .d (.int a)] ∧ Q (.d (seenM r a).dat) n
theorem L_hidden_first : ∀ rs n Q, mHid rs n Q → plainR rs ∧ rs.length = 2 := by
  rintro rs n Q ⟨s, l, rfl, h⟩
  exact plain2
theorem L_seen_first : ∀ rs n Q, mSeen rs n Q → plainR rs ∧ rs.length = 2 := by
  rintro rs n Q ⟨s, l, rfl, h⟩
  exact plain2
abbrev s_hidden_first : Stmt := topS 21
theorem sc_hidden_first : FnScope ["row", "amount", "number", "owner", "side", "price", "shown", "left", "seen", "rank"] ["row", "amount"] (defScope s_hidden_first) := ⟨rfl, rfl, rfl, by decide +kernel, rfl, by decide +kernel, by decide +kernel⟩
theorem ok_hid {f : Addr} {fd : FuncData} (F : Fun K "hidden_first" "hidden_first" s_hidden_first f fd) (T : Txt mg) : FnOk P w K mg base CX0 1 f fd ["row", "amount"] (spD mHid) := by
  apply okD F sc_hidden_first L_hidden_first
  case body =>
    intro cdv A outer s H E hr
    exact (psCons (psAsg (pdV (pv 0)) (pgTup (n := 8) rfl (pgCons (pgN (pg_name (i := 2) sc_hidden_first.nd rfl (Or.inl rfl))) (pgCons (pgN (pg_name (i := 3) sc_hidden_first.nd rfl (Or.inl rfl))) (pgCons (pgN (pg_name (i := 4) sc_hidden_first.nd rfl (Or.inl rfl))) (pgCons (pgN (pg_name (i := 5) sc_hidden_first.nd rfl (Or.inl rfl))) (pgCons (pgN (pg_name (i := 6) sc_hidden_first.nd rfl (Or.inl rfl))) (pgCons (pgN (pg_name (i := 7) sc_hidden_first.nd rfl (Or.inl rfl))) (pgCons (pgN (pg_name (i := 8) sc_hidden_first.nd rfl (Or.inl rfl))) (pgCons (pgN (pg_name (i := 9) sc_hidden_first.nd rfl (Or.inl rfl))) pgNil))))))))))
          (psOne (psRet (pdTup (paCons (pdV (pv 2)) (paCons (pdV (pv 3)) (paCons (pdV (pv 4)) (paCons (pdV (pv 5)) (paCons (pdV (pv 6)) (paCons (pdOp r2Sub op_sub (pdV (pv 7)) (pdV (pv 1))) (paCons (pdB rs2I (call_min2 rfl) (by rfl) T.b_min (by decide +kernel) (paCons (pdV (pv 8)) (paCons (pdOp r2Sub op_sub (pdV (pv 7)) (pdV (pv 1))) paNil))) (paCons (pdV (pv 9)) paNil))))))))))))
  case data =>
    rintro rs n Q ⟨⟨num, who, side, price, part, left, seen, rank⟩, a, rfl, h⟩
    repeat walk_at "d"
    exact h
abbrev s_seen_first : Stmt := topS 20
theorem sc_seen_first : FnScope ["row", "amount", "number", "owner", "side", "price", "shown", "left", "seen", "rank"] ["row", "amount"] (defScope s_seen_first) := ⟨rfl, rfl, rfl, by decide +kernel, rfl, by decide +kernel, by decide +kernel⟩
theorem ok_seen {f : Addr} {fd : FuncData} (F : Fun K "seen_first" "seen_first" s_seen_first f fd) (T : Txt mg) : FnOk P w K mg base CX0 1 f fd ["row", "amount"] (spD mSeen) := by
  apply okD F sc_seen_first L_seen_first
  case body =>
    intro cdv A outer s H E hr
    exact (psCons (psAsg (pdV (pv 0)) (pgTup (n := 8) rfl (pgCons (pgN (pg_name (i := 2) sc_seen_first.nd rfl (Or.inl rfl))) (pgCons (pgN (pg_name (i := 3) sc_seen_first.nd rfl (Or.inl rfl))) (pgCons (pgN (pg_name (i := 4) sc_seen_first.nd rfl (Or.inl rfl))) (pgCons (pgN (pg_name (i := 5) sc_seen_first.nd rfl (Or.inl rfl))) (pgCons (pgN (pg_name (i := 6) sc_seen_first.nd rfl (Or.inl rfl))) (pgCons (pgN (pg_name (i := 7) sc_seen_first.nd rfl (Or.inl rfl))) (pgCons (pgN (pg_name (i := 8) sc_seen_first.nd rfl (Or.inl rfl))) (pgCons (pgN (pg_name (i := 9) sc_seen_first.nd rfl (Or.inl rfl))) pgNil))))))))))
          (psOne (psRet (pdTup (paCons (pdV (pv 2)) (paCons (pdV (pv 3)) (paCons (pdV (pv 4)) (paCons (pdV (pv 5)) (paCons (pdV (pv 6)) (paCons (pdOp r2Sub op_sub (pdV (pv 7)) (pdV (pv 1))) (paCons (pdB rs2I (call_max2 rfl) (by rfl) T.b_max (by decide +kernel) (paCons (pdC pe_int) (paCons (pdOp r2Sub op_sub (pdV (pv 8)) (pdV (pv 1))) paNil))) (paCons (pdV (pv 9)) paNil))))))))))))
  case data =>
    rintro rs n Q ⟨⟨num, who, side, price, part, left, seen, rank⟩, a, rfl, h⟩
    repeat walk_at "d"
    exact h

end
section
variable [Fam] [Tabz] {P : Program} {w : World} {K : PySem.W.Frag} {mg : Str → Option Value} {base : Heap}
local macro_rules | `(tactic| walk_at "d") => `(tactic| first | refine Or.inl ⟨_, rfl, ?_⟩ | refine ⟨Nat.le_of_ble_eq_true rfl, ?_⟩ | refine ⟨⟨_, rfl⟩, ?_⟩ | refine ⟨_, rfl, ?_⟩)
/-! ### shown_anew -/
def anewS (a : List Evt × List Row × Int) (r : Row) : List Evt × List Row × Int :=
  if r.seen > 0 then (a.1, a.2.1 ++ [r], a.2.2)
  else if r.left > 0 then (a.1 ++ [.shown r.num (partM r.part r.left)], a.2.1 ++ [{ r with seen := partM r.part r.left, rank := a.2.2 }], a.2.2 + 1) else a
def anewM (rs : List Row) (k : Int) : List Evt × List Row × Int := rs.foldl anewS ([], [], k)
theorem anew_len (rs : List Row) : ∀ a, (rs.foldl anewS a).1.length ≤ a.1.length + rs.length ∧ (rs.foldl anewS a).2.1.length ≤ a.2.1.length + rs.length := by
  induction rs with
  | nil => intro a; exact ⟨Nat.le_refl _, Nat.le_refl _⟩
  | cons r rs ih =>
    intro a
    obtain ⟨h1, h2⟩ := ih (anewS a r)
    have h3 : (anewS a r).1.length ≤ a.1.length + 1 ∧ (anewS a r).2.1.length ≤ a.2.1.length + 1 := by
      unfold anewS
      split
      · simp
      · split <;> simp
    simp only [List.foldl_cons, List.length_cons]
    omega
theorem dat_at {rs : List Row} {i : Nat} {d : PyData} (h : (rs.map Row.dat)[i]? = some d) : ∃ r, rs[i]? = some r ∧ d = r.dat := by
  rw [List.getElem?_map] at h
  cases e : rs[i]? with
  | none => rw [e] at h; cases h
  | some r =>
    rw [e] at h
    cases h
    exact ⟨r, rfl, rfl⟩
theorem take_fold {α β : Type} (f : β → α → β) (b : β) {xs : List α} {i : Nat} {x : α} (h : xs[i]? = some x) : (xs.take (i + 1)).foldl f b = f ((xs.take i).foldl f b) x := by
  rw [List.take_succ, h, List.foldl_append]
  rfl
def mAnew : DM := fun rs n Q => ∃ (rows : List Row) (k : Int), rs = [.d (dRows rows), .d (.int k)] ∧ rows.length ≤ 50000 ∧ Q (.d (.tuple [dEvts (anewM rows k).1, dRows (anewM rows k).2.1, .int (anewM rows k).2.2])) n
theorem L_shown_anew : ∀ rs n Q, mAnew rs n Q → plainR rs ∧ rs.length = 2 := by
  rintro rs n Q ⟨s, l, rfl, h⟩
  exact plain2
abbrev s_shown_anew : Stmt := topS 22
theorem sc_shown_anew : FnScope ["rows", "rank", "events", "standing", "row", "number", "owner", "side", "price", "shown", "left", "seen", "_"] ["rows", "rank"] (defScope s_shown_anew) := ⟨rfl, rfl, rfl, by decide +kernel, rfl, by decide +kernel, by decide +kernel⟩
theorem ok_anew {f : Addr} {fd : FuncData} (F : Fun K "shown_anew" "shown_anew" s_shown_anew f fd) (T : Txt mg) (c_part_seen : Cal P w K mg base 1 "part_seen" ["shown", "left"] (spD mPart)) : FnOk P w K mg base CX0 2 f fd ["rows", "rank"] (spD mAnew) := by
  apply okD F sc_shown_anew L_shown_anew
  case body =>
    intro cdv A outer s H E hr
    obtain ⟨f_part_seen, fd_part_seen, G_part_seen, m_part_seen, k_part_seen, b_part_seen⟩ := c_part_seen
    exact (psCons (psSet (i := 2) sc_shown_anew.nd rfl (Or.inl rfl) (pdLst paNil))
          (psCons (psSet (i := 3) sc_shown_anew.nd rfl (Or.inl rfl) (pdLst paNil))
          (psCons (psFor PassesOwn.never rfl (piList (pdV (pv 0))) (pgN (pg_name (i := 4) sc_shown_anew.nd rfl (Or.inl rfl)))
           (psCons (psAsg (pdV (pv 4)) (pgTup (n := 8) rfl (pgCons (pgN (pg_name (i := 5) sc_shown_anew.nd rfl (Or.inl rfl))) (pgCons (pgN (pg_name (i := 6) sc_shown_anew.nd rfl (Or.inl rfl))) (pgCons (pgN (pg_name (i := 7) sc_shown_anew.nd rfl (Or.inl rfl))) (pgCons (pgN (pg_name (i := 8) sc_shown_anew.nd rfl (Or.inl rfl))) (pgCons (pgN (pg_name (i := 9) sc_shown_anew.nd rfl (Or.inl rfl))) (pgCons (pgN (pg_name (i := 10) sc_shown_anew.nd rfl (Or.inl rfl))) (pgCons (pgN (pg_name (i := 11) sc_shown_anew.nd rfl (Or.inl rfl))) (pgCons (pgN (pg_name (i := 12) sc_shown_anew.nd rfl (Or.inl rfl))) pgNil))))))))))
            (psOne (psIf (ptCmp r2Gt op_gt (pdV (pv 11)) (pdC pe_int) (nomark _)) (psOne (psApp (by rfl) (pe_bm PySem.F.plainAttrs_list PySem.F.slot_list_append PySem.F.type_list_append mt_append (pv 3) (pa_cons (pdV (pv 4)) pa_nil)))) (psOne (psIf (ptCmp r2Gt op_gt (pdV (pv 10)) (pdC pe_int) (nomark _)) (psCons (psSet (i := 11) sc_shown_anew.nd rfl (Or.inl rfl) (pdCall (fun _ _ _ q => (L_part_seen _ _ _ q).1) G_part_seen (hr.mono (by decide)) (by rfl) m_part_seen k_part_seen b_part_seen pass0 (paCons (pdV (pv 9)) (paCons (pdV (pv 10)) paNil))))
                (psCons (psApp (by rfl) (pe_bm PySem.F.plainAttrs_list PySem.F.slot_list_append PySem.F.type_list_append mt_append (pv 3) (pa_cons (pdTup (paCons (pdV (pv 5)) (paCons (pdV (pv 6)) (paCons (pdV (pv 7)) (paCons (pdV (pv 8)) (paCons (pdV (pv 9)) (paCons (pdV (pv 10)) (paCons (pdV (pv 11)) (paCons (pdV (pv 1)) paNil))))))))) pa_nil)))
                (psCons (psApp (by rfl) (pe_bm PySem.F.plainAttrs_list PySem.F.slot_list_append PySem.F.type_list_append mt_append (pv 2) (pa_cons (pdTup (paCons (pdC pe_str) (paCons (pdV (pv 5)) (paCons (pdV (pv 11)) paNil)))) pa_nil)))
                (psOne (psAug (i := 1) sc_shown_anew.nd rfl (Or.inl rfl) ip_add (pdC pe_int)))))) psNil))))))
          (psFrz 2 (psFrz 3 (psOne (psRet (pdTup (paCons (pdV (pv 2)) (paCons (pdV (pv 3)) (paCons (pdV (pv 1)) paNil)))))))))))
  case data =>
    rintro rs n Q ⟨rows, k, rfl, hl, h⟩
    repeat walk_at "d"
    refine ⟨fun i ρ m => m = n ∧ ∃ j4 j5 j6 j7 j8 j9 j10 j11 j12 : DV, ρ = [.d (dRows rows), .d (.int ((rows.take i).foldl anewS ([], [], k)).2.2), .own (((rows.take i).foldl anewS ([], [], k)).1.map Evt.dat), .own (((rows.take i).foldl anewS ([], [], k)).2.1.map Row.dat), j4, j5, j6, j7, j8, j9, j10, j11, j12], ⟨rfl, _, _, _, _, _, _, _, _, _, rfl⟩, ?_, ?_⟩
    · rintro i d ρ m hd ⟨rfl, j4, j5, j6, j7, j8, j9, j10, j11, j12, rfl⟩
      obtain ⟨r, hr, rfl⟩ := dat_at hd
      have e := take_fold anewS ([], [], k) hr
      have hi : i < rows.length := (List.getElem?_eq_some_iff.mp hr).1
      have hb := anew_len (rows.take i) ([], [], k)
      rw [List.length_take_of_le (Nat.le_of_lt hi)] at hb
      simp only [List.length_nil] at hb
      generalize (rows.take i).foldl anewS ([], [], k) = a at e hb ⊢
      repeat walk_at "d"
      refine ite2 (fun c => ?_) (fun c => ?_)
      · have c : 0 < r.seen := of_decide_eq_true c
        repeat walk_at "d"
        refine ⟨by rw [List.length_map]; omega, ?_⟩
        dsimp only
        rw [e]
        unfold anewS
        rw [if_pos c, List.map_append]
        exact ⟨rfl, _, _, _, _, _, _, _, _, _, rfl⟩
      · have c : ¬ 0 < r.seen := fun z => c (decide_eq_true z)
        repeat walk_at "d"
        refine ite2 (fun c2 => ?_) (fun c2 => ?_)
        · have c2 : 0 < r.left := of_decide_eq_true c2
          repeat walk_at "d"
          refine ⟨_, _, rfl, ?_⟩
          repeat walk_at "d"
          refine ⟨by rw [List.length_map]; omega, ?_⟩
          repeat walk_at "d"
          refine ⟨by rw [List.length_map]; omega, ?_⟩
          repeat walk_at "d"
          dsimp only
          rw [e]
          unfold anewS
          rw [if_neg c, if_pos c2, List.map_append, List.map_append]
          exact ⟨rfl, _, _, _, _, _, _, _, _, _, rfl⟩
        · have c2 : ¬ 0 < r.left := fun z => c2 (decide_eq_true z)
          dsimp only
          rw [e]
          unfold anewS
          rw [if_neg c, if_neg c2]
          exact ⟨rfl, _, _, _, _, _, _, _, _, _, rfl⟩
    · rintro ρ m ⟨rfl, j4, j5, j6, j7, j8, j9, j10, j11, j12, rfl⟩
      rw [List.length_map, List.take_length]
      repeat walk_at "d"
      exact h

end
section
variable [Fam] [Tabz] {P : Program} {w : World} {K : PySem.W.Frag} {mg : Str → Option Value} {base : Heap}
local macro_rules | `(tactic| walk_at "d") => `(tactic| first | refine Or.inl ⟨_, rfl, ?_⟩ | refine ⟨Nat.le_of_ble_eq_true rfl, ?_⟩ | refine ⟨⟨_, rfl⟩, ?_⟩ | refine ⟨_, rfl, ?_⟩)
/-! ### shares -/
def sharesM (left : Int) (seen : List Int) : List Int :=
  if seen.sum ≤ left then seen else
    (seen.map fun p => left * p / seen.sum).mapIdx fun i p => if (i : Int) < left - (seen.map fun p => left * p / seen.sum).sum then p + 1 else p
def dInts (ns : List Int) : PyData := .list (ns.map PyData.int)
theorem enumD_at {ds : List PyData} {i : Nat} {d : PyData} (h : (enumD ds)[i]? = some d) : ∃ y, ds[i]? = some y ∧ d = .tuple [.int (i : Nat), y] := by
  have hi : i < ds.length := by
    have := (List.getElem?_eq_some_iff.mp h).1
    rwa [enumD_len] at this
  unfold enumD at h
  rw [List.getElem?_map, List.getElem?_range hi] at h
  cases h
  refine ⟨ds[i], List.getElem?_eq_getElem hi, ?_⟩
  show PyData.tuple [.int (i : Nat), ds.getD i .none] = _
  rw [show ds.getD i .none = ds[i] by rw [List.getD_eq_getElem?_getD, List.getElem?_eq_getElem hi]; rfl]
theorem intsOf_map : ∀ ns : List Int, intsOf (ns.map PyData.int) = some ns
  | [] => rfl
  | n :: ns => by
    show (intsOf (ns.map PyData.int)).map (n :: ·) = _
    rw [intsOf_map ns]
    rfl
theorem sum_le_of {ns : List Int} {b : Int} (h : ∀ x ∈ ns, 0 ≤ x ∧ x < b) : 0 ≤ ns.sum ∧ ns.sum ≤ ns.length * b := by
  induction ns with
  | nil => simp
  | cons x xs ih =>
    have h1 := h x List.mem_cons_self
    have h2 := ih fun y hy => h y (List.mem_cons_of_mem _ hy)
    simp only [List.sum_cons, List.length_cons]
    have e : ((xs.length + 1 : Nat) : Int) * b = xs.length * b + b := by
      rw [Int.natCast_add, Int.add_mul]
      simp
    omega
theorem log_small {i : Int} {k : Nat} (h0 : 0 ≤ i) (h : i < 2 ^ k) : i.natAbs.log2 < k ∨ i = 0 := by
  by_cases z : i = 0
  · exact .inr z
  · refine .inl ((Nat.log2_lt (by omega)).mpr ?_)
    have e : ((2 ^ k : Nat) : Int) = 2 ^ k := by push_cast; rfl
    omega
theorem log_lt {i : Int} {k : Nat} (h0 : 0 ≤ i) (h : i < 2 ^ k) (hk : 0 < k) : i.natAbs.log2 < k := by
  rcases log_small h0 h with e | e
  · exact e
  · subst e
    exact hk
def mShares : DM := fun rs n Q => ∃ (left : Int) (seen : List Int), rs = [.d (.int left), .d (dInts seen)] ∧ (0 ≤ left ∧ left < 2 ^ 64) ∧ (∀ x ∈ seen, 0 ≤ x ∧ x < 2 ^ 64) ∧ seen.length ≤ 50000 ∧ Q (.own ((sharesM left seen).map PyData.int)) n
theorem L_shares : ∀ rs n Q, mShares rs n Q → plainR rs ∧ rs.length = 2 := by
  rintro rs n Q ⟨s, l, rfl, h⟩
  exact plain2
abbrev s_shares : Stmt := topS 19
theorem sc_shares : FnScope ["left", "seen", "together", "parts", "rest", "part", "at"] ["left", "seen"] (defScope s_shares) := ⟨rfl, rfl, rfl, by decide +kernel, rfl, by decide +kernel, by decide +kernel⟩
theorem ok_shares {f : Addr} {fd : FuncData} (F : Fun K "shares" "shares" s_shares f fd) (T : Txt mg) : FnOk P w K mg base CX0 1 f fd ["left", "seen"] (spD mShares) := by
  apply okD F sc_shares L_shares
  case body =>
    intro cdv A outer s H E hr
    exact (psCons (psSet (i := 2) sc_shares.nd rfl (Or.inr rfl) (pdB rsSum (cr_sum rfl) (by rfl) T.b_sum (by decide +kernel) (paCons (pdV (pv 1)) paNil)))
          (psCons (psIf (ptCmp r2Ge op_ge (pdV (pv 0)) (pdV (pv 2)) (nomark _)) (psOne (psRet (pdTy rsList call_list_of (by rfl) T.b_list (by decide +kernel) (paCons (pdV (pv 1)) paNil)))) psNil)
          (psCons ((ps_setLc (i := 3) (own := [("part", 5)]) (tt := tYes) rfl sc_shares.nd rfl rfl (sw_true rfl rfl rfl (by decide +kernel)) (piList (pdV (pv 1))) (blkOk_by (N := ["left", "seen", "together", "parts", "rest", "part", "at"]) (sc := defScope s_shares) (by decide +kernel)) (fun _ _ _ _ _ => (pgN (pg_name (i := 5) sc_shares.nd rfl (Or.inl rfl)))) (fun _ _ _ _ _ => pts_nil) (fun _ _ _ _ _ => (pdOp r2Div op_fdivW (pdOp r2Mul op_mulW (pdV (pv 0)) (pdV (pv 5))) (pdV (pv 2))))).imp (set_le2 (lc_le (by decide) yes_le)))
          (psFrz 3 (psCons (psSet (i := 4) sc_shares.nd rfl (Or.inr rfl) (pdOp r2Sub op_sub (pdV (pv 0)) (pdB rsSum (cr_sum rfl) (by rfl) T.b_sum (by decide +kernel) (paCons (pdV (pv 3)) paNil))))
          (psOne (psRet ((pe_lc (own := [("at", 6), ("part", 5)]) (tt := tYes) rfl sc_shares.nd (piEnum (pi_enum (by rfl) T.b_enumerate (paCons (pdV (pv 3)) paNil))) (blkOk_by (N := ["left", "seen", "together", "parts", "rest", "part", "at"]) (sc := defScope s_shares) (by decide +kernel)) (fun _ _ _ _ _ => (pgTup (n := 2) rfl (pgCons (pgN (pg_name (i := 6) sc_shares.nd rfl (Or.inl rfl))) (pgCons (pgN (pg_name (i := 5) sc_shares.nd rfl (Or.inl rfl))) pgNil)))) (fun _ _ _ _ _ => pts_nil) (fun _ _ _ _ _ => (pdIf (ptCmp r2Lt op_lt (pdV (pv 6)) (pdV (pv 4)) (nomark _)) (pdOp r2Add op_add (pdV (pv 5)) (pdC pe_int)) (pdV (pv 5))))).imp (lc_le (by decide) yes_le)))))))))
  case data =>
    rintro rs n Q ⟨left, seen, rfl, hl, hs, hz, h⟩
    have hsum := sum_le_of hs
    repeat walk_at "d"
    refine ⟨.d (.int seen.sum), by show (intsOf (seen.map PyData.int)).map _ = _; rw [intsOf_map]; rfl, ?_⟩
    repeat walk_at "d"
    refine ite2 (fun c => ?_) (fun c => ?_)
    · have c : seen.sum ≤ left := of_decide_eq_true c
      repeat walk_at "d"
      unfold sharesM at h
      rw [if_pos c] at h
      exact h
    · have c : ¬ seen.sum ≤ left := fun z => c (decide_eq_true z)
      unfold sharesM at h
      rw [if_neg c] at h
      have hm : ∀ p ∈ seen, left * p / seen.sum < 2 ^ 64 ∧ 0 ≤ left * p / seen.sum := fun p hp => by
        have := hs p hp
        have h0 : 0 < seen.sum := by omega
        refine ⟨?_, Int.ediv_nonneg (Int.mul_nonneg hl.1 this.1) (Int.le_of_lt h0)⟩
        refine Int.lt_of_le_of_lt (?_ : _ ≤ p) this.2
        refine Int.ediv_le_of_le_mul h0 ?_
        rw [Int.mul_comm p]
        exact Int.mul_le_mul_of_nonneg_right (by omega) this.1
      repeat walk_at "d"
      refine lcMap ((seen.map fun p => left * p / seen.sum).map PyData.int) rfl (by rw [List.length_map]; omega) (by simp) ?_ ?_
      · intro i d y hd hy
        rw [List.getElem?_map] at hd hy
        rw [List.getElem?_map] at hy
        cases e : seen[i]? with
        | none => rw [e] at hd; cases hd
        | some p =>
          rw [e] at hd hy
          cases hd
          cases hy
          refine ⟨_, rfl, fun R k => ?_⟩
          have hp := hs p (List.mem_of_getElem? e)
          repeat walk_at "d"
          refine ⟨_, if_pos (decide_eq_true (?_ : CMulW left p)), ?_⟩
          · show left.natAbs.log2 + p.natAbs.log2 < 1000000
            have h1 := log_lt hl.1 hl.2 (by decide)
            have h2 := log_lt hp.1 hp.2 (by decide)
            omega
          repeat walk_at "d"
          refine ⟨_, if_pos (decide_eq_true (?_ : CDivW (left * p) seen.sum)), k _ rfl⟩
          refine ⟨by omega, ?_⟩
          have h3 : seen.sum < 2 ^ 100 := by
            have : (seen.length : Int) ≤ 50000 := by omega
            have h4 : (seen.length : Int) * 2 ^ 64 ≤ 50000 * 2 ^ 64 := Int.mul_le_mul_of_nonneg_right this (by decide)
            have h5 : (50000 : Int) * 2 ^ 64 < 2 ^ 100 := by decide
            omega
          have := log_lt hsum.1 h3 (by decide)
          omega
      · generalize hps : (seen.map fun p => left * p / seen.sum) = ps at h ⊢
        have hpl : ps.length = seen.length := by rw [← hps, List.length_map]
        repeat walk_at "d"
        refine ⟨.d (.int ps.sum), by show (intsOf (ps.map PyData.int)).map _ = _; rw [intsOf_map]; rfl, ?_⟩
        repeat walk_at "d"
        refine lcMap _ rfl (by rw [enumD_len, List.length_map]; omega) (by rw [enumD_len, List.length_map, List.length_map, List.length_mapIdx]) ?_ h
        intro i d y hd hy
        obtain ⟨z, ez, rfl⟩ := enumD_at hd
        rw [List.getElem?_map] at ez hy
        rw [List.getElem?_mapIdx] at hy
        cases e : ps[i]? with
        | none => rw [e] at ez; cases ez
        | some p =>
        rw [e] at ez hy
        cases ez
        cases hy
        refine ⟨_, rfl, fun R k => ?_⟩
        repeat walk_at "d"
        refine ite2 (fun c => ?_) (fun c => ?_)
        · have c : (i : Int) < left - ps.sum := of_decide_eq_true c
          repeat walk_at "d"
          refine k _ ?_
          dsimp only
          rw [if_pos c]
          rfl
        · have c : ¬ (i : Int) < left - ps.sum := fun z => c (decide_eq_true z)
          repeat walk_at "d"
          refine k _ ?_
          dsimp only
          rw [if_neg c]
          rfl

end
section
variable [Fam] [Tabz] {P : Program} {w : World} {K : PySem.W.Frag} {mg : Str → Option Value} {base : Heap}
local macro_rules | `(tactic| walk_at "d") => `(tactic| first | refine Or.inl ⟨_, rfl, ?_⟩ | refine ⟨Nat.le_of_ble_eq_true rfl, ?_⟩ | refine ⟨⟨_, rfl⟩, ?_⟩ | refine ⟨_, rfl, ?_⟩ | refine ⟨_, _, rfl, ?_⟩ | refine ⟨_, _, _, rfl, ?_⟩ | refine ⟨_, _, _, _, rfl, ?_⟩)
/-! ### a step -/
structure Res where
  told : List Evt
  out : List Row
  back : List Row
  left : Int
  rank : Int
def Res.dat (r : Res) : PyData := .tuple [dEvts r.told, dRows r.out, dRows r.back, .int r.left, .int r.rank]
def minM (a b : Int) : Int := if b < a then b else a
def ownM (row : Row) (c : Com) (left rank : Int) : Res :=
  if c.guard = "less" then
    ⟨.less row.num c.num (minM left row.left) :: (anewM [hidM row (minM left row.left)] rank).1, [row], (anewM [hidM row (minM left row.left)] rank).2.1, left - minM left row.left, (anewM [hidM row (minM left row.left)] rank).2.2⟩
  else if c.guard = "old" then ⟨[.off row.num row.left], [row], [], left, rank⟩
  else if c.guard = "both" then ⟨[.off row.num row.left, .off c.num left], [row], [], 0, rank⟩
  else if c.guard = "new" then ⟨[.off c.num left], [], [], 0, rank⟩
  else ⟨[], [], [], left, rank⟩
def GuardOk (g : Str) : Prop := g = "old" ∨ g = "new" ∨ g = "both" ∨ g = "less"
def mOwn : DM := fun rs n Q => ∃ (row : Row) (c : Com) (left rank : Int), rs = [.d row.dat, .d c.dat, .d (.int left), .d (.int rank)] ∧ GuardOk c.guard ∧ Q (.d (ownM row c left rank).dat) n
theorem L_step_with_own : ∀ rs n Q, mOwn rs n Q → plainR rs ∧ rs.length = 4 := by
  rintro rs n Q ⟨r, c, l, k, rfl, h⟩
  exact plain4
theorem opCat_ok {a b : List PyData} (h : a.length + b.length ≤ 200000) : opCat (.list a) (.list b) = some (.own (a ++ b)) := if_pos h
theorem inT2 {g a b : Str} (h1 : SeqAt.shaped (.str g) = true) (h2 : SeqAt.shaped (.tuple [.str a, .str b]) = true) : opInT false (.str g) (.tuple [.str a, .str b]) = some (.d (.bool ([PyData.str a, .str b].any fun z => PyData.eqv z (.str g)))) := if_pos ⟨h1, h2⟩
abbrev s_step_with_own : Stmt := topS 17
theorem sc_step_with_own : FnScope ["row", "coming", "left", "rank", "number", "guard", "amount", "told", "back", "events", "out"] ["row", "coming", "left", "rank"] (defScope s_step_with_own) := ⟨rfl, rfl, rfl, by decide +kernel, rfl, by decide +kernel, by decide +kernel⟩
theorem ok_own {f : Addr} {fd : FuncData} (F : Fun K "step_with_own" "step_with_own" s_step_with_own f fd) (T : Txt mg) (c_shown_anew : Cal P w K mg base 2 "shown_anew" ["rows", "rank"] (spD mAnew)) (c_hidden_first : Cal P w K mg base 1 "hidden_first" ["row", "amount"] (spD mHid)) : FnOk P w K mg base CX0 3 f fd ["row", "coming", "left", "rank"] (spD mOwn) := by
  apply okD F sc_step_with_own L_step_with_own
  case body =>
    intro cdv A outer s H E hr
    obtain ⟨_, mG_BOTH⟩ := T.mg_BOTH
    obtain ⟨_, mG_LESS⟩ := T.mg_LESS
    obtain ⟨_, mG_NEW⟩ := T.mg_NEW
    obtain ⟨_, mG_OLD⟩ := T.mg_OLD
    obtain ⟨f_hidden_first, fd_hidden_first, G_hidden_first, m_hidden_first, k_hidden_first, b_hidden_first⟩ := c_hidden_first
    obtain ⟨f_shown_anew, fd_shown_anew, G_shown_anew, m_shown_anew, k_shown_anew, b_shown_anew⟩ := c_shown_anew
    exact (psCons (psPar (ps_par (i := 4) (j := 5) (by rfl) sc_step_with_own.nd rfl rfl (by decide) rfl rfl (paCons (pdIx r2IxT ix_tup (pdV (pv 1)) (pdC pe_int) (fun _ _ => rfl)) (paCons (pdIx r2IxT ix_tup (pdV (pv 1)) (pdC pe_int) (fun _ _ => rfl)) paNil)) (by rfl)))
          (psCons (psIf (ptCmp r2Eq op_eq (pdV (pv 5)) (pdC (pe_glob (v := .str "less") (by rfl) mG_LESS ⟨_, rfl⟩)) (nomark _)) (psCons (psSet (i := 6) sc_step_with_own.nd rfl (Or.inl rfl) (pdB rs2I (call_min2 rfl) (by rfl) T.b_min (by decide +kernel) (paCons (pdV (pv 2)) (paCons (pdIx r2IxT ix_tup (pdV (pv 0)) (pdC pe_int) (fun _ _ => rfl)) paNil))))
            (psCons (psAsg (pdCall (fun _ _ _ q => (L_shown_anew _ _ _ q).1) G_shown_anew (hr.mono (by decide)) (by rfl) m_shown_anew k_shown_anew b_shown_anew pass0 (paCons (pdLst (paCons (pdCall (fun _ _ _ q => (L_hidden_first _ _ _ q).1) G_hidden_first (hr.mono (by decide)) (by rfl) m_hidden_first k_hidden_first b_hidden_first pass0 (paCons (pdV (pv 0)) (paCons (pdV (pv 6)) paNil))) paNil)) (paCons (pdV (pv 3)) paNil))) (pgTup (n := 3) rfl (pgCons (pgN (pg_name (i := 7) sc_step_with_own.nd rfl (Or.inl rfl))) (pgCons (pgN (pg_name (i := 8) sc_step_with_own.nd rfl (Or.inl rfl))) (pgCons (pgN (pg_name (i := 3) sc_step_with_own.nd rfl (Or.inl rfl))) pgNil)))))
            (psOne (psRet (pdTup (paCons (pdOp r2Cat op_cat (pdLst (paCons (pdTup (paCons (pdC pe_str) (paCons (pdIx r2IxT ix_tup (pdV (pv 0)) (pdC pe_int) (fun _ _ => rfl)) (paCons (pdV (pv 4)) (paCons (pdV (pv 6)) paNil))))) paNil)) (pdV (pv 7))) (paCons (pdLst (paCons (pdV (pv 0)) paNil)) (paCons (pdV (pv 8)) (paCons (pdOp r2Sub op_sub (pdV (pv 2)) (pdV (pv 6))) (paCons (pdV (pv 3)) paNil)))))))))) psNil)
          (psCons (psSet (i := 9) sc_step_with_own.nd rfl (Or.inl rfl) (pdLst paNil))
          (psCons (psSet (i := 10) sc_step_with_own.nd rfl (Or.inl rfl) (pdLst paNil))
          (psCons (psIf (ptCmp r2InT (op_inT hr.units65) (pdV (pv 5)) (pdTup (paCons (pdC (pe_glob (v := .str "old") (by rfl) mG_OLD ⟨_, rfl⟩)) (paCons (pdC (pe_glob (v := .str "both") (by rfl) mG_BOTH ⟨_, rfl⟩)) paNil))) (by rfl)) (psCons (psApp (by rfl) (pe_bm PySem.F.plainAttrs_list PySem.F.slot_list_append PySem.F.type_list_append mt_append (pv 9) (pa_cons (pdTup (paCons (pdC pe_str) (paCons (pdIx r2IxT ix_tup (pdV (pv 0)) (pdC pe_int) (fun _ _ => rfl)) (paCons (pdIx r2IxT ix_tup (pdV (pv 0)) (pdC pe_int) (fun _ _ => rfl)) (paCons (pdC pe_str) paNil))))) pa_nil)))
            (psOne (psApp (by rfl) (pe_bm PySem.F.plainAttrs_list PySem.F.slot_list_append PySem.F.type_list_append mt_append (pv 10) (pa_cons (pdV (pv 0)) pa_nil))))) psNil)
          (psCons (psIf (ptCmp r2InT (op_inT hr.units65) (pdV (pv 5)) (pdTup (paCons (pdC (pe_glob (v := .str "new") (by rfl) mG_NEW ⟨_, rfl⟩)) (paCons (pdC (pe_glob (v := .str "both") (by rfl) mG_BOTH ⟨_, rfl⟩)) paNil))) (by rfl)) (psCons (psApp (by rfl) (pe_bm PySem.F.plainAttrs_list PySem.F.slot_list_append PySem.F.type_list_append mt_append (pv 9) (pa_cons (pdTup (paCons (pdC pe_str) (paCons (pdV (pv 4)) (paCons (pdV (pv 2)) (paCons (pdC pe_str) paNil))))) pa_nil)))
            (psOne (psSet (i := 2) sc_step_with_own.nd rfl (Or.inl rfl) (pdC pe_int)))) psNil)
          (psFrz 9 (psFrz 10 (psOne (psRet (pdTup (paCons (pdV (pv 9)) (paCons (pdV (pv 10)) (paCons (pdLst paNil) (paCons (pdV (pv 2)) (paCons (pdV (pv 3)) paNil))))))))))))))))
  case data =>
    rintro rs n Q ⟨row, c, left, rank, rfl, hg, h⟩
    obtain ⟨num, who, side, price, cl, guard⟩ := c
    rcases hg with e | e | e | e <;> (have e : guard = _ := e) <;> subst e
    · repeat walk_at "d"
      refine ⟨_, inT2 (g := "old") (by decide +kernel) (by decide +kernel), ?_⟩
      repeat walk_at "d"
      refine ⟨_, inT2 (g := "old") (by decide +kernel) (by decide +kernel), ?_⟩
      repeat walk_at "d"
      exact h
    · repeat walk_at "d"
      refine ⟨_, inT2 (g := "new") (by decide +kernel) (by decide +kernel), ?_⟩
      repeat walk_at "d"
      refine ⟨_, inT2 (g := "new") (by decide +kernel) (by decide +kernel), ?_⟩
      repeat walk_at "d"
      exact h
    · repeat walk_at "d"
      refine ⟨_, inT2 (g := "both") (by decide +kernel) (by decide +kernel), ?_⟩
      repeat walk_at "d"
      refine ⟨_, inT2 (g := "both") (by decide +kernel) (by decide +kernel), ?_⟩
      repeat walk_at "d"
      exact h
    · repeat walk_at "d"
      refine ⟨[hidM row (minM left row.left)], rank, rfl, by show 1 ≤ 50000; decide, ?_⟩
      repeat walk_at "d"
      have hz := (anew_len [hidM row (minM left row.left)] ([], [], rank)).1
      refine ⟨_, opCat_ok (by rw [List.length_map]; exact Nat.le_trans (Nat.add_le_add_left hz 1) (by show 1 + (0 + 1) ≤ 200000; decide)), ?_⟩
      repeat walk_at "d"
      exact h
def seenOf (ms : List Row) : List Int := ms.map Row.seen
def tradesOf (ms : List Row) (amts : List Int) : List (Row × Int) := (ms.zip amts).filter fun p => decide (0 < p.2)
def tradeE (c : Com) (p : Row × Int) : Evt := if c.side = "buy" then .trade c.num p.1.num p.1.price p.2 else .trade p.1.num c.num p.1.price p.2
def tradesM (ms : List Row) (c : Com) (left rank : Int) : Res :=
  let ps := tradesOf ms (sharesM left (seenOf ms))
  let an := anewM (ps.map fun p => seenM p.1 p.2) rank
  ⟨ps.map (tradeE c) ++ an.1, ps.map Prod.fst, an.2.1, left - (sharesM left (seenOf ms)).sum, an.2.2⟩
theorem shares_len (left : Int) (seen : List Int) : (sharesM left seen).length = seen.length := by
  unfold sharesM
  split
  · rfl
  · rw [List.length_mapIdx, List.length_map]
def mTrades : DM := fun rs n Q => ∃ (ms : List Row) (c : Com) (left rank : Int), rs = [.d (dRows ms), .d c.dat, .d (.int left), .d (.int rank)] ∧ (0 ≤ left ∧ left < 2 ^ 64) ∧ (∀ r ∈ ms, 0 ≤ r.seen ∧ r.seen < 2 ^ 64) ∧ ms.length ≤ 50000 ∧ Q (.d (tradesM ms c left rank).dat) n
theorem L_step_of_trades : ∀ rs n Q, mTrades rs n Q → plainR rs ∧ rs.length = 4 := by
  rintro rs n Q ⟨r, c, l, k, rfl, h⟩
  exact plain4
abbrev s_step_of_trades : Stmt := topS 18
theorem sc_step_of_trades : FnScope ["met", "coming", "left", "rank", "number", "side", "amounts", "events", "out", "less", "row", "amount", "buyer", "seller", "told", "back"] ["met", "coming", "left", "rank"] (defScope s_step_of_trades) := ⟨rfl, rfl, rfl, by decide +kernel, rfl, by decide +kernel, by decide +kernel⟩
theorem ok_trades {f : Addr} {fd : FuncData} (F : Fun K "step_of_trades" "step_of_trades" s_step_of_trades f fd) (T : Txt mg) (c_shown_anew : Cal P w K mg base 2 "shown_anew" ["rows", "rank"] (spD mAnew)) (c_seen_first : Cal P w K mg base 1 "seen_first" ["row", "amount"] (spD mSeen)) (c_shares : Cal P w K mg base 1 "shares" ["left", "seen"] (spD mShares)) : FnOk P w K mg base CX0 3 f fd ["met", "coming", "left", "rank"] (spD mTrades) := by
  apply okD F sc_step_of_trades L_step_of_trades
  case body =>
    intro cdv A outer s H E hr
    obtain ⟨_, mG_BUY⟩ := T.mg_BUY
    obtain ⟨f_seen_first, fd_seen_first, G_seen_first, m_seen_first, k_seen_first, b_seen_first⟩ := c_seen_first
    obtain ⟨f_shares, fd_shares, G_shares, m_shares, k_shares, b_shares⟩ := c_shares
    obtain ⟨f_shown_anew, fd_shown_anew, G_shown_anew, m_shown_anew, k_shown_anew, b_shown_anew⟩ := c_shown_anew
    exact (psCons (psPar (ps_par (i := 4) (j := 5) (by rfl) sc_step_of_trades.nd rfl rfl (by decide) rfl rfl (paCons (pdIx r2IxT ix_tup (pdV (pv 1)) (pdC pe_int) (fun _ _ => rfl)) (paCons (pdIx r2IxT ix_tup (pdV (pv 1)) (pdC pe_int) (fun _ _ => rfl)) paNil)) (by rfl)))
          (psCons (psSet (i := 6) sc_step_of_trades.nd rfl (Or.inl rfl) (pdCall (fun _ _ _ q => (L_shares _ _ _ q).1) G_shares (hr.mono (by decide)) (by rfl) m_shares k_shares b_shares pass0 (paCons (pdV (pv 2)) (paCons ((pe_lc (own := [("row", 10)]) (tt := tYes) rfl sc_step_of_trades.nd (piList (pdV (pv 0))) (blkOk_by (N := ["met", "coming", "left", "rank", "number", "side", "amounts", "events", "out", "less", "row", "amount", "buyer", "seller", "told", "back"]) (sc := defScope s_step_of_trades) (by decide +kernel)) (fun _ _ _ _ _ => (pgN (pg_name (i := 10) sc_step_of_trades.nd rfl (Or.inl rfl)))) (fun _ _ _ _ _ => pts_nil) (fun _ _ _ _ _ => (pdIx r2IxT ix_tup (pdV (pv 10)) (pdC pe_int) (fun _ _ => rfl)))).imp (lc_le (by decide) yes_le)) paNil))))
          (psCons (psSet (i := 7) sc_step_of_trades.nd rfl (Or.inl rfl) (pdLst paNil))
          (psCons (psSet (i := 8) sc_step_of_trades.nd rfl (Or.inl rfl) (pdLst paNil))
          (psCons (psSet (i := 9) sc_step_of_trades.nd rfl (Or.inl rfl) (pdLst paNil))
          (psFrz 6 (psCons (psFor PassesOwn.never rfl (piZip (pi_zip (by rfl) T.b_zip (paCons (pdV (pv 0)) (paCons (pdV (pv 6)) paNil)))) (pgTup (n := 2) rfl (pgCons (pgN (pg_name (i := 10) sc_step_of_trades.nd rfl (Or.inl rfl))) (pgCons (pgN (pg_name (i := 11) sc_step_of_trades.nd rfl (Or.inl rfl))) pgNil)))
           (psOne (psIf (ptCmp r2Gt op_gt (pdV (pv 11)) (pdC pe_int) (nomark _)) (psCons (psAsg (pdIf (ptCmp r2Eq op_eq (pdV (pv 5)) (pdC (pe_glob (v := .str "buy") (by rfl) mG_BUY ⟨_, rfl⟩)) (nomark _)) (pdTup (paCons (pdV (pv 4)) (paCons (pdIx r2IxT ix_tup (pdV (pv 10)) (pdC pe_int) (fun _ _ => rfl)) paNil))) (pdTup (paCons (pdIx r2IxT ix_tup (pdV (pv 10)) (pdC pe_int) (fun _ _ => rfl)) (paCons (pdV (pv 4)) paNil)))) (pgTup (n := 2) rfl (pgCons (pgN (pg_name (i := 12) sc_step_of_trades.nd rfl (Or.inl rfl))) (pgCons (pgN (pg_name (i := 13) sc_step_of_trades.nd rfl (Or.inl rfl))) pgNil))))
              (psCons (psApp (by rfl) (pe_bm PySem.F.plainAttrs_list PySem.F.slot_list_append PySem.F.type_list_append mt_append (pv 7) (pa_cons (pdTup (paCons (pdC pe_str) (paCons (pdV (pv 12)) (paCons (pdV (pv 13)) (paCons (pdIx r2IxT ix_tup (pdV (pv 10)) (pdC pe_int) (fun _ _ => rfl)) (paCons (pdV (pv 11)) paNil)))))) pa_nil)))
              (psCons (psApp (by rfl) (pe_bm PySem.F.plainAttrs_list PySem.F.slot_list_append PySem.F.type_list_append mt_append (pv 8) (pa_cons (pdV (pv 10)) pa_nil)))
              (psOne (psApp (by rfl) (pe_bm PySem.F.plainAttrs_list PySem.F.slot_list_append PySem.F.type_list_append mt_append (pv 9) (pa_cons (pdCall (fun _ _ _ q => (L_seen_first _ _ _ q).1) G_seen_first (hr.mono (by decide)) (by rfl) m_seen_first k_seen_first b_seen_first pass0 (paCons (pdV (pv 10)) (paCons (pdV (pv 11)) paNil))) pa_nil))))))) psNil)))
          (psFrz 9 (psCons (psAsg (pdCall (fun _ _ _ q => (L_shown_anew _ _ _ q).1) G_shown_anew (hr.mono (by decide)) (by rfl) m_shown_anew k_shown_anew b_shown_anew pass0 (paCons (pdV (pv 9)) (paCons (pdV (pv 3)) paNil))) (pgTup (n := 3) rfl (pgCons (pgN (pg_name (i := 14) sc_step_of_trades.nd rfl (Or.inl rfl))) (pgCons (pgN (pg_name (i := 15) sc_step_of_trades.nd rfl (Or.inl rfl))) (pgCons (pgN (pg_name (i := 3) sc_step_of_trades.nd rfl (Or.inl rfl))) pgNil)))))
          (psFrz 7 (psFrz 8 (psOne (psRet (pdTup (paCons (pdOp r2Cat op_cat (pdV (pv 7)) (pdV (pv 14))) (paCons (pdV (pv 8)) (paCons (pdV (pv 15)) (paCons (pdOp r2Sub op_sub (pdV (pv 2)) (pdB rsSum (cr_sum rfl) (by rfl) T.b_sum (by decide +kernel) (paCons (pdV (pv 6)) paNil))) (paCons (pdV (pv 3)) paNil)))))))))))))))))))
  case data =>
    rintro rs n Q ⟨ms, c, left, rank, rfl, hl, hs, hz, h⟩
    repeat walk_at "d"
    refine lcMap ((seenOf ms).map PyData.int) rfl (by rw [List.length_map]; omega) (by simp [seenOf]) ?_ ?_
    · intro i d y hd hy
      obtain ⟨r, hr, rfl⟩ := dat_at hd
      rw [List.getElem?_map] at hy
      unfold seenOf at hy
      rw [List.getElem?_map, hr] at hy
      cases hy
      refine ⟨_, rfl, fun R k => ?_⟩
      repeat walk_at "d"
      exact k _ rfl
    refine ⟨left, seenOf ms, rfl, hl, fun x hx => ?_, by unfold seenOf; rw [List.length_map]; exact hz, ?_⟩
    · unfold seenOf at hx
      obtain ⟨r, hr, rfl⟩ := List.mem_map.mp hx
      exact hs r hr
    have hal : (sharesM left (seenOf ms)).length = ms.length := by rw [shares_len]; unfold seenOf; rw [List.length_map]
    generalize ham : sharesM left (seenOf ms) = am at h hal ⊢
    repeat walk_at "d"
    refine ⟨fun i ρ m => m = n ∧ ∃ j10 j11 j12 j13 j14 j15 : DV, ρ = [.d (dRows ms), .d c.dat, .d (.int left), .d (.int rank), .d (.int c.num), .d (.str c.side), .d (dInts am),
      .own ((((ms.zip am).take i).filter fun p => decide (0 < p.2)).map fun p => (tradeE c p).dat), .own ((((ms.zip am).take i).filter fun p => decide (0 < p.2)).map fun p => p.1.dat), .own ((((ms.zip am).take i).filter fun p => decide (0 < p.2)).map fun p => (seenM p.1 p.2).dat), j10, j11, j12, j13, j14, j15], ⟨rfl, _, _, _, _, _, _, rfl⟩, ?_, ?_⟩
    · rintro i d ρ m hd ⟨rfl, j10, j11, j12, j13, j14, j15, rfl⟩
      obtain ⟨r, a, hp, rfl⟩ : ∃ (r : Row) (a : Int), (ms.zip am)[i]? = some (r, a) ∧ d = .tuple [r.dat, .int a] := by
        unfold zipD at hd
        rw [List.zip_map, List.map_map, List.getElem?_map] at hd
        cases e : (ms.zip am)[i]? with
        | none => rw [e] at hd; cases hd
        | some p => rw [e] at hd; cases hd; exact ⟨p.1, p.2, rfl, rfl⟩
      have hi : i < (ms.zip am).length := (List.getElem?_eq_some_iff.mp hp).1
      have et : ((ms.zip am).take (i + 1)).filter (fun p => decide (0 < p.2)) = ((ms.zip am).take i).filter (fun p => decide (0 < p.2)) ++ if 0 < a then [(r, a)] else [] := by
        rw [List.take_succ, hp, List.filter_append]
        congr 1
        by_cases q : 0 < a <;> simp [q]
      have hb : (((ms.zip am).take i).filter fun p => decide (0 < p.2)).length ≤ 50000 := by
        refine Nat.le_trans (List.length_filter_le _ _) (Nat.le_trans (List.length_take_le _ _) ?_)
        rw [List.length_zip] at hi
        omega
      generalize ((ms.zip am).take i).filter (fun p => decide (0 < p.2)) = ps at et hb ⊢
      repeat walk_at "d"
      refine ite2 (fun q => ?_) (fun q => ?_)
      · have q : 0 < a := of_decide_eq_true q
        rw [if_pos q] at et
        repeat walk_at "d"
        refine ite2 (fun b => ?_) (fun b => ?_)
        · have b : c.side = "buy" := of_decide_eq_true b
          repeat walk_at "d"
          refine ⟨by rw [List.length_map]; omega, ?_⟩
          repeat walk_at "d"
          refine ⟨by rw [List.length_map]; omega, ?_⟩
          repeat walk_at "d"
          refine ⟨by rw [List.length_map]; omega, ?_⟩
          dsimp only
          rw [et, List.map_append, List.map_append, List.map_append, show List.map (fun p => (tradeE c p).dat) [(r, a)] = [PyData.tuple [.str "trade", .int c.num, .int r.num, .int r.price, .int a]] by
            show [(tradeE c (r, a)).dat] = _
            unfold tradeE
            rw [if_pos b]
            rfl]
          exact ⟨rfl, _, _, _, _, _, _, rfl⟩
        · have b : ¬ c.side = "buy" := fun z => b (decide_eq_true z)
          repeat walk_at "d"
          refine ⟨by rw [List.length_map]; omega, ?_⟩
          repeat walk_at "d"
          refine ⟨by rw [List.length_map]; omega, ?_⟩
          repeat walk_at "d"
          refine ⟨by rw [List.length_map]; omega, ?_⟩
          dsimp only
          rw [et, List.map_append, List.map_append, List.map_append, show List.map (fun p => (tradeE c p).dat) [(r, a)] = [PyData.tuple [.str "trade", .int r.num, .int c.num, .int r.price, .int a]] by
            show [(tradeE c (r, a)).dat] = _
            unfold tradeE
            rw [if_neg b]
            rfl]
          exact ⟨rfl, _, _, _, _, _, _, rfl⟩
      · have q : ¬ 0 < a := fun z => q (decide_eq_true z)
        rw [if_neg q, List.append_nil] at et
        dsimp only
        rw [et]
        exact ⟨rfl, _, _, _, _, _, _, rfl⟩
    · rintro ρ m ⟨rfl, j10, j11, j12, j13, j14, j15, rfl⟩
      rw [show (zipD (ms.map Row.dat) (am.map PyData.int)).length = (ms.zip am).length by unfold zipD; rw [List.length_map, List.length_zip, List.length_zip, List.length_map, List.length_map], List.take_length]
      have hb : ((ms.zip am).filter fun p => decide (0 < p.2)).length ≤ 50000 := by
        refine Nat.le_trans (List.length_filter_le _ _) ?_
        rw [List.length_zip]
        omega
      unfold tradesM tradesOf at h
      rw [ham] at h
      generalize (ms.zip am).filter (fun p => decide (0 < p.2)) = ps at h hb ⊢
      repeat walk_at "d"
      refine ⟨ps.map fun p => seenM p.1 p.2, rank, ?_, by rw [List.length_map]; exact hb, ?_⟩
      · unfold dRows
        rw [List.map_map]
        rfl
      have hz := (anew_len (ps.map fun p => seenM p.1 p.2) ([], [], rank)).1
      rw [List.length_map] at hz
      repeat walk_at "d"
      refine ⟨_, opCat_ok (by rw [List.length_map, List.length_map]; exact Nat.le_trans (Nat.add_le_add_left hz _) (by show ps.length + (0 + ps.length) ≤ 200000; omega)), ?_⟩
      repeat walk_at "d"
      refine ⟨.d (.int am.sum), by show (intsOf (am.map PyData.int)).map _ = _; rw [intsOf_map]; rfl, ?_⟩
      repeat walk_at "d"
      simp only [Res.dat, dEvts, dRows, List.map_append, List.map_map] at h
      exact h

end
section
variable [Fam] [Tabz] {P : Program} {w : World} {K : PySem.W.Frag} {mg : Str → Option Value} {base : Heap}
local macro_rules | `(tactic| walk_at "d") => `(tactic| first | refine Or.inl ⟨_, rfl, ?_⟩ | refine ⟨Nat.le_of_ble_eq_true rfl, ?_⟩ | refine ⟨⟨_, rfl⟩, ?_⟩ | refine ⟨_, rfl, ?_⟩ | refine ⟨_, _, rfl, ?_⟩ | refine ⟨_, _, _, rfl, ?_⟩ | refine ⟨_, _, _, _, rfl, ?_⟩)
/-! ### step, the rows that are met -/
def stepM (ms : List Row) (c : Com) (left rank : Int) : Res := match ms.find? (fun r => decide (r.who = c.who)) with
  | some r => ownM r c left rank
  | none => tradesM ms c left rank
def mStep : DM := fun rs n Q => ∃ (ms : List Row) (c : Com) (left rank : Int), rs = [.d (dRows ms), .d c.dat, .d (.int left), .d (.int rank)] ∧ GuardOk c.guard ∧ (0 ≤ left ∧ left < 2 ^ 64) ∧ (∀ r ∈ ms, 0 ≤ r.seen ∧ r.seen < 2 ^ 64) ∧ ms.length ≤ 50000 ∧ Q (.d (stepM ms c left rank).dat) n
theorem L_step : ∀ rs n Q, mStep rs n Q → plainR rs ∧ rs.length = 4 := by
  rintro rs n Q ⟨r, c, l, k, rfl, h⟩
  exact plain4
abbrev s_step : Stmt := topS 16
theorem sc_step : FnScope ["met", "coming", "left", "rank", "row"] ["met", "coming", "left", "rank"] (defScope s_step) := ⟨rfl, rfl, rfl, by decide +kernel, rfl, by decide +kernel, by decide +kernel⟩
theorem ok_step {f : Addr} {fd : FuncData} (F : Fun K "step" "step" s_step f fd) (T : Txt mg) (c_step_with_own : Cal P w K mg base 3 "step_with_own" ["row", "coming", "left", "rank"] (spD mOwn)) (c_step_of_trades : Cal P w K mg base 3 "step_of_trades" ["met", "coming", "left", "rank"] (spD mTrades)) : FnOk P w K mg base CX0 4 f fd ["met", "coming", "left", "rank"] (spD mStep) := by
  apply okD F sc_step L_step
  case body =>
    intro cdv A outer s H E hr
    obtain ⟨f_step_of_trades, fd_step_of_trades, G_step_of_trades, m_step_of_trades, k_step_of_trades, b_step_of_trades⟩ := c_step_of_trades
    obtain ⟨f_step_with_own, fd_step_with_own, G_step_with_own, m_step_with_own, k_step_with_own, b_step_with_own⟩ := c_step_with_own
    exact (psCons (psFor PassesOwn.never rfl (piList (pdV (pv 0))) (pgN (pg_name (i := 4) sc_step.nd rfl (Or.inl rfl)))
           (psOne (psIf (ptCmp r2Eq op_eq (pdIx r2IxT ix_tup (pdV (pv 4)) (pdC pe_int) (fun _ _ => rfl)) (pdIx r2IxT ix_tup (pdV (pv 1)) (pdC pe_int) (fun _ _ => rfl)) (nomark _)) (psOne (psRet (pdCall (fun _ _ _ q => (L_step_with_own _ _ _ q).1) G_step_with_own (hr.mono (by decide)) (by rfl) m_step_with_own k_step_with_own b_step_with_own pass0 (paCons (pdV (pv 4)) (paCons (pdV (pv 1)) (paCons (pdV (pv 2)) (paCons (pdV (pv 3)) paNil))))))) psNil)))
          (psOne (psRet (pdCall (fun _ _ _ q => (L_step_of_trades _ _ _ q).1) G_step_of_trades (hr.mono (by decide)) (by rfl) m_step_of_trades k_step_of_trades b_step_of_trades pass0 (paCons (pdV (pv 0)) (paCons (pdV (pv 1)) (paCons (pdV (pv 2)) (paCons (pdV (pv 3)) paNil))))))))
  case data =>
    rintro rs n Q ⟨ms, c, left, rank, rfl, hg, hl, hs, hz, h⟩
    unfold stepM at h
    repeat walk_at "d"
    refine ⟨fun i ρ m => m = n ∧ (ms.take i).find? (fun r => decide (r.who = c.who)) = none ∧ ∃ j4 : DV, ρ = [.d (dRows ms), .d c.dat, .d (.int left), .d (.int rank), j4], ⟨rfl, rfl, _, rfl⟩, ?_, ?_⟩
    · rintro i d ρ m hd ⟨rfl, hn, j4, rfl⟩
      obtain ⟨r, hr, rfl⟩ := dat_at hd
      have hi : i < ms.length := (List.getElem?_eq_some_iff.mp hr).1
      have et : ms.take (i + 1) = ms.take i ++ [r] := by rw [List.take_succ, hr]; rfl
      repeat walk_at "d"
      refine ite2 (fun q => ?_) (fun q => ?_)
      · have q : r.who = c.who := of_decide_eq_true q
        have e : ms.find? (fun r => decide (r.who = c.who)) = some r := by
          rw [← List.take_append_drop (i + 1) ms, et, List.find?_append, List.find?_append, hn]
          simp [q]
        rw [e] at h
        repeat walk_at "d"
        exact ⟨hg, h⟩
      · have q : ¬ r.who = c.who := fun z => q (decide_eq_true z)
        refine ⟨rfl, ?_, _, rfl⟩
        rw [et, List.find?_append, hn]
        simp [q]
    · rintro ρ m ⟨rfl, hn, j4, rfl⟩
      rw [List.length_map, List.take_length] at hn
      rw [hn] at h
      repeat walk_at "d"
      exact ⟨hl, hs, hz, h⟩
def sideM (rows : List Row) (s : Str) : List Row := rows.filter fun r => decide (r.side = s)
def bestM (s : Str) (ps : List Int) : Int := if s = "buy" then (maxI ps).getD 0 else (minI ps).getD 0
def leRank (a b : Row) : Bool := decide (a.rank ≤ b.rank)
def levelM (rows : List Row) (s : Str) : List Row := ((sideM rows s).filter fun r => decide (r.price = bestM s ((sideM rows s).map Row.price))).mergeSort leRank
def metM (rows : List Row) (s rule : Str) : List Row := if (sideM rows s).isEmpty = true then [] else if rule = "share" then levelM rows s else (levelM rows s).take 1
def mMet : DM := fun rs n Q => ∃ (rows : List Row) (s rule : Str), rs = [.d (dRows rows), .d (.str s), .d (.str rule)] ∧ rows.length ≤ 50000 ∧ Q (.d (dRows (metM rows s rule))) n
theorem L_rows_met : ∀ rs n Q, mMet rs n Q → plainR rs ∧ rs.length = 3 := by
  rintro rs n Q ⟨r, c, l, rfl, h⟩
  exact plain3
theorem dat_mem {rs : List Row} {d : PyData} (h : d ∈ rs.map Row.dat) : ∃ r ∈ rs, d = r.dat := by
  obtain ⟨r, h1, h2⟩ := List.mem_map.mp h
  exact ⟨r, h1, h2.symm⟩
theorem filter_dat (p : Row → Bool) (q : PyData → Bool) (h : ∀ r, q r.dat = p r) (rs : List Row) : (rs.map Row.dat).filter q = (rs.filter p).map Row.dat := by
  rw [List.filter_map]
  congr 2
  funext r
  exact h r
theorem sort_dat (rs : List Row) : (rs.map Row.dat).mergeSort leR = (rs.mergeSort leRank).map Row.dat := by
  rw [List.map_mergeSort (s := leR)]
  intro a _ b _
  rfl
theorem intsOf_price (rs : List Row) : intsOf (rs.map fun r => PyData.int r.price) = some (rs.map Row.price) := by
  have := intsOf_map (rs.map Row.price)
  rw [List.map_map] at this
  exact this
theorem bMax_ok (i : Int) (is : List Int) : bMaxL [.list ((i :: is).map PyData.int)] = some (.d (.int ((maxI (i :: is)).getD 0))) := by
  show (intsOf ((i :: is).map PyData.int)).bind _ = _
  rw [intsOf_map]
  rfl
theorem bMin_ok (i : Int) (is : List Int) : bMinL [.list ((i :: is).map PyData.int)] = some (.d (.int ((minI (i :: is)).getD 0))) := by
  show (intsOf ((i :: is).map PyData.int)).bind _ = _
  rw [intsOf_map]
  rfl
theorem cut1 (ds : List PyData) : cutD ds none (some 1) = ds.take 1 := by
  unfold cutD
  cases ds with
  | nil => rfl
  | cons d ds =>
    have e1 : HT.sIx (d :: ds).length 0 none = 0 := rfl
    have e2 : HT.sIx (d :: ds).length (d :: ds).length (some 1) = 1 := by
      unfold HT.sIx
      simp
    rw [e1, e2]
    rfl
abbrev s_rows_met : Stmt := topS 15
theorem sc_rows_met : FnScope ["rows", "side", "rule", "others", "prices", "best", "level", "row"] ["rows", "side", "rule"] (defScope s_rows_met) := ⟨rfl, rfl, rfl, by decide +kernel, rfl, by decide +kernel, by decide +kernel⟩
theorem ok_met {f cC PA : Addr} {fd : FuncData} (F : FunC K "rows_met" "rows_met" s_rows_met f cC fd) (T : Txt mg) (TB : LamX.TabB base mg cC PA) (hmT : (PA, ("rows_met.<locals>." : Str) ++ "<lambda>") ∈ Tabz.T) (hu : ∀ p ∈ Tabz.T, p.1 = PA → p.2 = ("rows_met.<locals>." : Str) ++ "<lambda>") : FnOk P w K mg base CX0 2 f fd ["rows", "side", "rule"] (spD mMet) := by
  apply okDC F sc_rows_met L_rows_met
  case body =>
    intro A outer s H E hr
    obtain ⟨_, mG_BUY⟩ := T.mg_BUY
    obtain ⟨_, mG_SHARE⟩ := T.mg_SHARE
    exact (psCons ((ps_setLc (i := 3) (own := [("row", 7)]) rfl sc_rows_met.nd rfl rfl (sw_true rfl rfl rfl (by decide +kernel)) (piList (pdV (pv 0))) (blkOk_by (N := ["rows", "side", "rule", "others", "prices", "best", "level", "row"]) (sc := defScope s_rows_met) (by decide +kernel)) (fun _ _ _ _ _ => (pgN (pg_name (i := 7) sc_rows_met.nd rfl (Or.inl rfl)))) (fun _ _ _ _ _ => (pts_one (ptCmp r2Eq op_eq (pdIx r2IxT ix_tup (pdV (pv 7)) (pdC pe_int) (fun _ _ => rfl)) (pdV (pv 1)) (nomark _)))) (fun _ _ _ _ _ => (pdV (pv 7)))).imp (set_le2 (lc_le (by decide) (fun _ _ _ q => q))))
          (psFrz 3 (psCons (psIf (ptNot (ptTru (pdV (pv 3)) (by intro _; rfl))) (psOne (psRet (pdCold (pdLst paNil)))) psNil)
          (psCons ((ps_setLc (i := 4) (own := [("row", 7)]) (tt := tYes) rfl sc_rows_met.nd rfl rfl (sw_true rfl rfl rfl (by decide +kernel)) (piList (pdV (pv 3))) (blkOk_by (N := ["rows", "side", "rule", "others", "prices", "best", "level", "row"]) (sc := defScope s_rows_met) (by decide +kernel)) (fun _ _ _ _ _ => (pgN (pg_name (i := 7) sc_rows_met.nd rfl (Or.inl rfl)))) (fun _ _ _ _ _ => pts_nil) (fun _ _ _ _ _ => (pdIx r2IxT ix_tup (pdV (pv 7)) (pdC pe_int) (fun _ _ => rfl)))).imp (set_le2 (lc_le (by decide) yes_le)))
          (psFrz 4 (psCons (psSet (i := 5) sc_rows_met.nd rfl (Or.inr rfl) (pdIf (ptCmp r2Eq op_eq (pdV (pv 1)) (pdC (pe_glob (v := .str "buy") (by rfl) mG_BUY ⟨_, rfl⟩)) (nomark _)) (pdB rsMax (cr_max rfl) (by rfl) T.b_max (by decide +kernel) (paCons (pdV (pv 4)) paNil)) (pdB rsMin (cr_min rfl) (by rfl) T.b_min (by decide +kernel) (paCons (pdV (pv 4)) paNil))))
          (psCons (psSet (i := 6) sc_rows_met.nd rfl (Or.inl rfl) (pdSort7 (pe_sortRk rfl T.b_sorted TB rfl hmT hu (hr.mono (by decide)) ((pe_lc (own := [("row", 7)]) rfl sc_rows_met.nd (piList (pdV (pv 3))) (blkOk_by (N := ["rows", "side", "rule", "others", "prices", "best", "level", "row"]) (sc := defScope s_rows_met) (by decide +kernel)) (fun _ _ _ _ _ => (pgN (pg_name (i := 7) sc_rows_met.nd rfl (Or.inl rfl)))) (fun _ _ _ _ _ => (pts_one (ptCmp r2Eq op_eq (pdIx r2IxT ix_tup (pdV (pv 7)) (pdC pe_int) (fun _ _ => rfl)) (pdV (pv 5)) (nomark _)))) (fun _ _ _ _ _ => (pdV (pv 7)))).imp (lc_le (by decide) (fun _ _ _ q => q))))))
          (psFrz 6 (psOne (psRet (pdCold (pdIf (ptCmp r2Eq op_eq (pdV (pv 2)) (pdC (pe_glob (v := .str "share") (by rfl) mG_SHARE ⟨_, rfl⟩)) (nomark _)) (pdV (pv 6)) (pdSl slLD sl_list (pdV (pv 6)) poNone (poSome (pdC pe_int)))))))))))))))
  case data =>
    rintro rs n Q ⟨rows, s, rule, rfl, hz, h⟩
    repeat walk_at "d"
    refine lcFil (fun d => match d with | .tuple [_, _, .str x, _, _, _, _, _] => decide (x = s) | _ => false) rfl (by rw [List.length_map]; omega) ?_ ?_
    · intro d hd
      obtain ⟨r, hr, rfl⟩ := dat_mem hd
      refine ⟨_, rfl, fun R k => ?_, fun R k => ?_⟩
      · repeat walk_at "d"
        exact k
      · repeat walk_at "d"
        exact k
    rw [filter_dat (fun r => decide (r.side = s)) _ (fun r => rfl)]
    show _ ∧ _
    have hlen : (sideM rows s).length ≤ 50000 := Nat.le_trans (List.length_filter_le _ _) hz
    unfold metM at h
    unfold levelM at h
    rw [show (rows.filter fun r => decide (r.side = s)) = sideM rows s from rfl]
    generalize sideM rows s = os at h hlen ⊢
    repeat walk_at "d"
    cases os with
    | nil =>
      repeat walk_at "d"
      exact h
    | cons o os =>
      rw [if_neg (by simp)] at h
      repeat walk_at "d"
      refine lcMap ((Row.price o :: os.map Row.price).map PyData.int) rfl (by rw [List.length_map]; omega) (by simp) ?_ ?_
      · intro i d y hd hy
        obtain ⟨r, hr, rfl⟩ := dat_at hd
        rw [show (o.price :: os.map Row.price) = (o :: os).map Row.price from rfl, List.getElem?_map, List.getElem?_map, hr] at hy
        cases hy
        refine ⟨_, rfl, fun R k => ?_⟩
        repeat walk_at "d"
        exact k _ rfl
      repeat walk_at "d"
      refine ite2 (fun q => ?_) (fun q => ?_)
      · have q : s = "buy" := of_decide_eq_true q
        repeat walk_at "d"
        refine ⟨.d (.int (bestM s (List.map Row.price (o :: os)))), ?_, ?_⟩
        · unfold bestM
          rw [if_pos q]
          exact bMax_ok _ _
        generalize bestM s (List.map Row.price (o :: os)) = b at h ⊢
        repeat walk_at "d"
        refine lcFil (fun d => match d with | .tuple [_, _, _, .int x, _, _, _, _] => decide (x = b) | _ => false) rfl (by rw [List.length_map]; exact Nat.le_trans hlen (by decide)) ?_ ?_
        · intro d hd
          obtain ⟨r, hr, rfl⟩ := dat_mem hd
          refine ⟨_, rfl, fun R k => ?_, fun R k => ?_⟩
          · repeat walk_at "d"
            exact k
          · repeat walk_at "d"
            exact k
        rw [filter_dat (fun r => decide (r.price = b)) _ (fun r => rfl)]
        refine ⟨_, rfl, fun d hd => ?_, ?_⟩
        · obtain ⟨r, hr, rfl⟩ := dat_mem hd
          rfl
        rw [sort_dat]
        repeat walk_at "d"
        refine ite2 (fun q2 => ?_) (fun q2 => ?_)
        · have q2 : rule = "share" := of_decide_eq_true q2
          rw [if_pos q2] at h
          repeat walk_at "d"
          exact h
        · have q2 : ¬ rule = "share" := fun z => q2 (decide_eq_true z)
          rw [if_neg q2] at h
          repeat walk_at "d"
          rw [cut1, ← List.map_take]
          exact h
      · have q : ¬ s = "buy" := fun z => q (decide_eq_true z)
        repeat walk_at "d"
        refine ⟨.d (.int (bestM s (List.map Row.price (o :: os)))), ?_, ?_⟩
        · unfold bestM
          rw [if_neg q]
          exact bMin_ok _ _
        generalize bestM s (List.map Row.price (o :: os)) = b at h ⊢
        repeat walk_at "d"
        refine lcFil (fun d => match d with | .tuple [_, _, _, .int x, _, _, _, _] => decide (x = b) | _ => false) rfl (by rw [List.length_map]; exact Nat.le_trans hlen (by decide)) ?_ ?_
        · intro d hd
          obtain ⟨r, hr, rfl⟩ := dat_mem hd
          refine ⟨_, rfl, fun R k => ?_, fun R k => ?_⟩
          · repeat walk_at "d"
            exact k
          · repeat walk_at "d"
            exact k
        rw [filter_dat (fun r => decide (r.price = b)) _ (fun r => rfl)]
        refine ⟨_, rfl, fun d hd => ?_, ?_⟩
        · obtain ⟨r, hr, rfl⟩ := dat_mem hd
          rfl
        rw [sort_dat]
        repeat walk_at "d"
        refine ite2 (fun q2 => ?_) (fun q2 => ?_)
        · have q2 : rule = "share" := of_decide_eq_true q2
          rw [if_pos q2] at h
          repeat walk_at "d"
          exact h
        · have q2 : ¬ rule = "share" := fun z => q2 (decide_eq_true z)
          rw [if_neg q2] at h
          repeat walk_at "d"
          rw [cut1, ← List.map_take]
          exact h

end
section
variable [Fam] [Tabz] {P : Program} {w : World} {K : PySem.W.Frag} {mg : Str → Option Value} {base : Heap}
local macro_rules | `(tactic| walk_at "d") => `(tactic| first | refine Or.inl ⟨_, rfl, ?_⟩ | refine ⟨Nat.le_of_ble_eq_true rfl, ?_⟩ | refine ⟨⟨_, rfl⟩, ?_⟩ | refine ⟨_, rfl, ?_⟩ | refine ⟨_, _, rfl, ?_⟩ | refine ⟨_, _, _, rfl, ?_⟩ | refine ⟨_, _, _, _, rfl, ?_⟩)
/-! ### ranked -/
def leRow (neg : Bool) (a b : Row) : Bool := decide (key1 neg a.price < key1 neg b.price ∨ (key1 neg a.price = key1 neg b.price ∧ a.rank ≤ b.rank))
def rankM (rows : List Row) : List Row := (sideM rows "buy").mergeSort (leRow true) ++ (sideM rows "sell").mergeSort (leRow false)
theorem sort_row (neg : Bool) (rs : List Row) : (rs.map Row.dat).mergeSort (leK neg) = (rs.mergeSort (leRow neg)).map Row.dat := by
  rw [List.map_mergeSort (s := leK neg)]
  intro a _ b _
  rfl
def mRanked : DM := fun rs n Q => ∃ rows : List Row, rs = [.d (dRows rows)] ∧ rows.length ≤ 50000 ∧ Q (.own ((rankM rows).map Row.dat)) n
theorem L_ranked : ∀ rs n Q, mRanked rs n Q → plainR rs ∧ rs.length = 1 := by
  rintro rs n Q ⟨r, rfl, h⟩
  exact plain1
abbrev s_ranked : Stmt := topS 9
theorem sc_ranked : FnScope ["rows", "buys", "sells", "row"] ["rows"] (defScope s_ranked) := ⟨rfl, rfl, rfl, by decide +kernel, rfl, by decide +kernel, by decide +kernel⟩
theorem ok_ranked {f cC PA : Addr} {fd : FuncData} (F : FunC K "ranked" "ranked" s_ranked f cC fd) (T : Txt mg) (TB : LamX.TabB base mg cC PA) (hmT : (PA, ("ranked.<locals>." : Str) ++ "<lambda>") ∈ Tabz.T) (hu : ∀ p ∈ Tabz.T, p.1 = PA → p.2 = ("ranked.<locals>." : Str) ++ "<lambda>") : FnOk P w K mg base CX0 2 f fd ["rows"] (spD mRanked) := by
  apply okDC F sc_ranked L_ranked
  case body =>
    intro A outer s H E hr
    obtain ⟨_, mG_BUY⟩ := T.mg_BUY
    obtain ⟨_, mG_SELL⟩ := T.mg_SELL
    exact (psCons ((ps_setLc (i := 1) (own := [("row", 3)]) rfl sc_ranked.nd rfl rfl (sw_true rfl rfl rfl (by decide +kernel)) (piList (pdV (pv 0))) (blkOk_by (N := ["rows", "buys", "sells", "row"]) (sc := defScope s_ranked) (by decide +kernel)) (fun _ _ _ _ _ => (pgN (pg_name (i := 3) sc_ranked.nd rfl (Or.inl rfl)))) (fun _ _ _ _ _ => (pts_one (ptCmp r2Eq op_eq (pdIx r2IxT ix_tup (pdV (pv 3)) (pdC pe_int) (fun _ _ => rfl)) (pdC (pe_glob (v := .str "buy") (by rfl) mG_BUY ⟨_, rfl⟩)) (nomark _)))) (fun _ _ _ _ _ => (pdV (pv 3)))).imp (set_le2 (lc_le (by decide) (fun _ _ _ q => q))))
          (psCons ((ps_setLc (i := 2) (own := [("row", 3)]) rfl sc_ranked.nd rfl rfl (sw_true rfl rfl rfl (by decide +kernel)) (piList (pdV (pv 0))) (blkOk_by (N := ["rows", "buys", "sells", "row"]) (sc := defScope s_ranked) (by decide +kernel)) (fun _ _ _ _ _ => (pgN (pg_name (i := 3) sc_ranked.nd rfl (Or.inl rfl)))) (fun _ _ _ _ _ => (pts_one (ptCmp r2Eq op_eq (pdIx r2IxT ix_tup (pdV (pv 3)) (pdC pe_int) (fun _ _ => rfl)) (pdC (pe_glob (v := .str "sell") (by rfl) mG_SELL ⟨_, rfl⟩)) (nomark _)))) (fun _ _ _ _ _ => (pdV (pv 3)))).imp (set_le2 (lc_le (by decide) (fun _ _ _ q => q))))
          (psFrz 1 (psCons (psSet (i := 1) sc_ranked.nd rfl (Or.inl rfl) (pdSortR (pe_sortLam (neg := true) rfl T.b_sorted TB rfl hmT hu (hr.mono (by decide)) (pdV (pv 1)))))
          (psFrz 2 (psCons (psSet (i := 2) sc_ranked.nd rfl (Or.inl rfl) (pdSortR (pe_sortLam (neg := false) (p4 := ⟨0, 0, 0, 0⟩) rfl T.b_sorted TB rfl hmT hu (hr.mono (by decide)) (pdV (pv 2)))))
          (psFrz 1 (psFrz 2 (psOne (psRet (pdOp r2Cat op_cat (pdV (pv 1)) (pdV (pv 2)))))))))))))
  case data =>
    rintro rs n Q ⟨rows, rfl, hz, h⟩
    have flt : ∀ (s : Str) (d : PyData), d ∈ rows.map Row.dat → ∃ r : Row, r ∈ rows ∧ d = r.dat := fun s d hd => dat_mem hd
    repeat walk_at "d"
    refine lcFil (fun d => match d with | .tuple [_, _, .str x, _, _, _, _, _] => decide (x = "buy") | _ => false) rfl (by rw [List.length_map]; omega) ?_ ?_
    · intro d hd
      obtain ⟨r, hr, rfl⟩ := dat_mem hd
      refine ⟨_, rfl, fun R k => ?_, fun R k => ?_⟩
      · repeat walk_at "d"
        exact k
      · repeat walk_at "d"
        exact k
    rw [filter_dat (fun r => decide (r.side = "buy")) _ (fun r => rfl)]
    repeat walk_at "d"
    refine lcFil (fun d => match d with | .tuple [_, _, .str x, _, _, _, _, _] => decide (x = "sell") | _ => false) rfl (by rw [List.length_map]; omega) ?_ ?_
    · intro d hd
      obtain ⟨r, hr, rfl⟩ := dat_mem hd
      refine ⟨_, rfl, fun R k => ?_, fun R k => ?_⟩
      · repeat walk_at "d"
        exact k
      · repeat walk_at "d"
        exact k
    rw [filter_dat (fun r => decide (r.side = "sell")) _ (fun r => rfl)]
    have l1 := List.length_filter_le (fun r : Row => decide (r.side = "buy")) rows
    have l2 := List.length_filter_le (fun r : Row => decide (r.side = "sell")) rows
    repeat walk_at "d"
    refine ⟨fun d hd => ?_, ?_⟩
    · obtain ⟨r, hr, rfl⟩ := dat_mem hd
      rfl
    rw [sort_row]
    repeat walk_at "d"
    refine ⟨fun d hd => ?_, ?_⟩
    · obtain ⟨r, hr, rfl⟩ := dat_mem hd
      rfl
    rw [sort_row]
    repeat walk_at "d"
    refine ⟨_, opCat_ok (by rw [List.length_map, List.length_map, List.length_mergeSort, List.length_mergeSort]; omega), ?_⟩
    rw [← List.map_append]
    exact h

end
section
variable [Fam] [Tabz] {P : Program} {w : World} {K : PySem.W.Frag} {mg : Str → Option Value} {base : Heap}
/-! ### the plain rule by rank: its mathematics -/
structure MSt where
  rows : List Row
  evts : List Evt
  left : Int
  rank : Int
def outM (rows out : List Row) : List Row := rows.filter fun r => !(out.any fun o => PyData.eqv o.dat r.dat)
def nextM (c : Com) (rule : Str) (st : MSt) : MSt :=
  let r := stepM (metM st.rows (agM c.side) rule) c st.left st.rank
  ⟨outM st.rows r.out ++ r.back, st.evts ++ r.told, r.left, r.rank⟩
def meetF (c : Com) (band : Option Int) (anchor : Int) (rule : Str) : Nat → MSt → Option (MSt × Bool)
  | 0, _ => none
  | k + 1, st => if 0 < st.left then
      match metM st.rows (agM c.side) rule with
      | [] => some (st, false)
      | m :: _ => if letsM c.price c.side m.price = true then (if farM m.price band anchor = true then some (st, true) else meetF c band anchor rule k (nextM c rule st)) else some (st, false)
    else some (st, false)
def RowOk (r : Row) : Prop := 1 ≤ r.seen ∧ r.seen ≤ r.left ∧ r.left < 2 ^ 64 ∧ (∀ p, r.part = some p → 1 ≤ p ∧ p < 2 ^ 64) ∧ (r.part = none → r.seen = r.left) ∧ PyData.strOk r.who = true ∧ (r.side = "buy" ∨ r.side = "sell")
def phi (r : Row) : Nat := 1 + match r.part with
  | none => 0
  | some p => ((r.left - r.seen + p - 1) / p).toNat
def Phi (rs : List Row) : Nat := (rs.map phi).sum
theorem Phi_app (a b : List Row) : Phi (a ++ b) = Phi a + Phi b := by
  unfold Phi
  rw [List.map_append, List.sum_append]
theorem Phi_filter (p : Row → Bool) : ∀ rs : List Row, Phi (rs.filter p) ≤ Phi rs
  | [] => Nat.le_refl _
  | r :: rs => by
    have := Phi_filter p rs
    rw [List.filter_cons]
    split
    · show phi r + Phi (rs.filter p) ≤ phi r + Phi rs
      omega
    · show _ ≤ phi r + Phi rs
      omega
theorem side_lay {s : Str} (h : s = "buy" ∨ s = "sell") : PyData.strOk s = true := by
  rcases h with rfl | rfl <;> decide +kernel
theorem Row.lay {r : Row} (h : PyData.strOk r.who = true) (h2 : r.side = "buy" ∨ r.side = "sell") : r.dat.canLay0 = true := by
  obtain ⟨num, who, side, price, part, left, seen, rank⟩ := r
  have h2 := side_lay h2
  cases part <;> simp_all [Row.dat, datP, PyData.canLay0, PyData.canLayAll0]
theorem Row.self {r : Row} (h : RowOk r) : PyData.eqv r.dat r.dat = true := SeqAt.eqv_refl _ (Row.lay h.2.2.2.2.2.1 h.2.2.2.2.2.2)
theorem Phi_out {rows : List Row} {m : Row} (hm : m ∈ rows) (ok : RowOk m) : Phi (outM rows [m]) + phi m ≤ Phi rows := by
  induction rows with
  | nil => cases hm
  | cons r rs ih =>
    have e : outM (r :: rs) [m] = if PyData.eqv m.dat r.dat = true then outM rs [m] else r :: outM rs [m] := by
      unfold outM
      rw [List.filter_cons]
      cases q : PyData.eqv m.dat r.dat <;> simp [q]
    rw [e]
    have hf : Phi (outM rs [m]) ≤ Phi rs := Phi_filter _ _
    rcases List.mem_cons.mp hm with z | z
    · subst z
      rw [if_pos (Row.self ok)]
      show _ ≤ phi m + Phi rs
      omega
    · have := ih z
      split
      · show _ ≤ phi r + Phi rs
        omega
      · show phi r + Phi (outM rs [m]) + phi m ≤ phi r + Phi rs
        omega
theorem out_len (rows out : List Row) : (outM rows out).length ≤ rows.length := List.length_filter_le _ _
theorem out_lt {rows : List Row} {m : Row} (hm : m ∈ rows) (ok : RowOk m) : (outM rows [m]).length + 1 ≤ rows.length := by
  induction rows with
  | nil => cases hm
  | cons r rs ih =>
    have e : outM (r :: rs) [m] = if PyData.eqv m.dat r.dat = true then outM rs [m] else r :: outM rs [m] := by
      unfold outM
      rw [List.filter_cons]
      cases q : PyData.eqv m.dat r.dat <;> simp [q]
    rw [e]
    have hf : (outM rs [m]).length ≤ rs.length := out_len _ _
    rcases List.mem_cons.mp hm with z | z
    · subst z
      rw [if_pos (Row.self ok)]
      show _ ≤ rs.length + 1
      omega
    · have := ih z
      split
      · show _ ≤ rs.length + 1
        omega
      · show (outM rs [m]).length + 1 + 1 ≤ rs.length + 1
        omega
/-- what a step leaves -/
structure StepOk (m : Row) (left : Int) (r : Res) : Prop where
  l0 : 0 ≤ r.left
  l1 : r.left ≤ left
  ev : r.told.length ≤ 3
  out : r.out = [] ∨ r.out = [m]
  back : r.back = [] ∨ ∃ b, r.back = [b] ∧ RowOk b ∧ r.out = [m] ∧ phi b ≤ phi m ∧ (r.left = 0 ∨ phi b + 1 ≤ phi m)
  stay : r.out = [] → r.left = 0 ∧ r.back = []
theorem anew_one (r : Row) (k : Int) : anewM [r] k = if r.seen > 0 then ([], [r], k) else if r.left > 0 then ([.shown r.num (partM r.part r.left)], [{ r with seen := partM r.part r.left, rank := k }], k + 1) else ([], [], k) := by
  unfold anewM
  simp only [List.foldl_cons, List.foldl_nil, anewS]
  split
  · rfl
  · split <;> rfl
theorem share_one {left seen : Int} (h : 0 < seen) (hl : 0 ≤ left) : sharesM left [seen] = [if seen ≤ left then seen else left] := by
  unfold sharesM
  have e : [seen].sum = seen := by simp
  rw [e]
  by_cases c : seen ≤ left
  · rw [if_pos c, if_pos c]
  · rw [if_neg c, if_neg c]
    have e2 : left * seen / seen = left := Int.mul_ediv_cancel _ (by omega)
    simp [e2]
theorem own_ok {m : Row} {c : Com} {left rank : Int} (ok : RowOk m) (hl : 0 < left) (hg : GuardOk c.guard) : StepOk m left (ownM m c left rank) := by
  obtain ⟨h1, h2, h3, h4, h5, h6, h7⟩ := ok
  unfold ownM
  by_cases g1 : c.guard = "less"
  · rw [if_pos g1, anew_one]
    have hmin : 0 < minM left m.left ∧ minM left m.left ≤ left ∧ minM left m.left ≤ m.left ∧ (minM left m.left = left ∨ minM left m.left = m.left) := by
      unfold minM
      split <;> omega
    obtain ⟨a0, a1, a2, a3⟩ := hmin
    generalize minM left m.left = a at a0 a1 a2 a3
    have hs : (hidM m a).seen = if m.left - a < m.seen then m.left - a else m.seen := rfl
    have hl' : (hidM m a).left = m.left - a := rfl
    rw [hs, hl']
    by_cases z : m.left - a = 0
    · rw [z, show (if (0 : Int) < m.seen then (0 : Int) else m.seen) = 0 from if_pos (by omega), if_neg (by omega), if_neg (by omega)]
      exact ⟨by show 0 ≤ left - a; omega, by show left - a ≤ left; omega, by show 1 ≤ 3; omega, .inr rfl, .inl rfl, fun q => by cases q⟩
    · rw [if_pos (by split <;> omega)]
      have zl : left - a = 0 := by omega
      have pz : phi (hidM m a) ≤ phi m := by
        unfold phi
        show 1 + (match m.part with | none => 0 | some p => ((m.left - a - (if m.left - a < m.seen then m.left - a else m.seen) + p - 1) / p).toNat) ≤ 1 + _
        cases e : m.part with
        | none => exact Nat.le_refl _
        | some p =>
          have hp := h4 p e
          show 1 + ((m.left - a - (if m.left - a < m.seen then m.left - a else m.seen) + p - 1) / p).toNat ≤ 1 + ((m.left - m.seen + p - 1) / p).toNat
          have : (m.left - a - (if m.left - a < m.seen then m.left - a else m.seen) + p - 1) / p ≤ (m.left - m.seen + p - 1) / p := Int.ediv_le_ediv (by omega) (by split <;> omega)
          omega
      refine ⟨by show 0 ≤ left - a; omega, by show left - a ≤ left; omega, by show 1 ≤ 3; omega, .inr rfl, .inr ⟨_, rfl, ⟨?_, ?_, ?_, h4, ?_, h6, h7⟩, rfl, pz, .inl zl⟩, fun q => by cases q⟩
      · show 1 ≤ (if m.left - a < m.seen then m.left - a else m.seen)
        split <;> omega
      · show (if m.left - a < m.seen then m.left - a else m.seen) ≤ m.left - a
        split <;> omega
      · show m.left - a < 2 ^ 64
        omega
      · intro e
        have := h5 e
        show (if m.left - a < m.seen then m.left - a else m.seen) = m.left - a
        split <;> omega
  · rw [if_neg g1]
    by_cases g2 : c.guard = "old"
    · rw [if_pos g2]
      exact ⟨Int.le_of_lt hl, Int.le_refl _, by show 1 ≤ 3; omega, .inr rfl, .inl rfl, fun q => by cases q⟩
    · rw [if_neg g2]
      by_cases g3 : c.guard = "both"
      · rw [if_pos g3]
        exact ⟨Int.le_refl _, Int.le_of_lt hl, by show 2 ≤ 3; omega, .inr rfl, .inl rfl, fun q => by cases q⟩
      · rw [if_neg g3, if_pos (by rcases hg with e | e | e | e; exact absurd e g2; exact e; exact absurd e g3; exact absurd e g1)]
        exact ⟨Int.le_refl _, Int.le_of_lt hl, by show 1 ≤ 3; omega, .inl rfl, .inl rfl, fun _ => ⟨rfl, rfl⟩⟩
theorem trade_ok {m : Row} {c : Com} {left rank : Int} (ok : RowOk m) (hl : 0 < left) : StepOk m left (tradesM [m] c left rank) := by
  obtain ⟨h1, h2, h3, h4, h5, h6, h7⟩ := ok
  have es : sharesM left (seenOf [m]) = [if m.seen ≤ left then m.seen else left] := share_one (by omega) (by omega)
  unfold tradesM tradesOf
  rw [es]
  have a0 : 0 < (if m.seen ≤ left then m.seen else left) := by split <;> omega
  have a1 : (if m.seen ≤ left then m.seen else left) ≤ left := by split <;> omega
  have a2 : (if m.seen ≤ left then m.seen else left) ≤ m.seen := by split <;> omega
  have a3 : (if m.seen ≤ left then m.seen else left) = left ∨ (if m.seen ≤ left then m.seen else left) = m.seen := by split <;> omega
  generalize (if m.seen ≤ left then m.seen else left) = a at a0 a1 a2 a3
  have ez : (([m].zip [a]).filter fun p : Row × Int => decide (0 < p.2)) = [(m, a)] := by
    simp [a0]
  rw [ez]
  simp only [List.map_cons, List.map_nil, List.sum_cons, List.sum_nil, Int.add_zero]
  rw [anew_one]
  have hs : (seenM m a).seen = if m.seen - a > 0 then m.seen - a else 0 := rfl
  have hl' : (seenM m a).left = m.left - a := rfl
  by_cases z : m.seen - a > 0
  · rw [hs, if_pos z, if_pos z]
    have zl : left - a = 0 := by omega
    refine ⟨by show 0 ≤ left - a; omega, by show left - a ≤ left; omega, by show 1 ≤ 3; omega, .inr rfl, .inr ⟨_, rfl, ⟨?_, ?_, ?_, h4, ?_, h6, h7⟩, rfl, ?_, .inl zl⟩, fun q => by cases q⟩
    · rw [hs, if_pos z]; omega
    · rw [hs, if_pos z, hl']; omega
    · rw [hl']; omega
    · intro e
      have := h5 e
      rw [hs, if_pos z, hl']
      omega
    · unfold phi
      rw [hs, if_pos z, hl']
      show 1 + (match m.part with | none => 0 | some p => ((m.left - a - (m.seen - a) + p - 1) / p).toNat) ≤ _
      rw [show m.left - a - (m.seen - a) = m.left - m.seen by omega]
      exact Nat.le_refl _
  · rw [hs, if_neg z, if_neg (by omega), hl']
    have az : a = m.seen := by omega
    subst az
    by_cases z2 : m.left - m.seen > 0
    · rw [if_pos z2]
      obtain ⟨p, e⟩ : ∃ p, m.part = some p := by
        cases e : m.part with
        | none => have := h5 e; omega
        | some p => exact ⟨p, rfl⟩
      have hp := h4 p e
      have ep : partM (seenM m m.seen).part (m.left - m.seen) = if m.left - m.seen < p then m.left - m.seen else p := by
        show partM m.part _ = _
        rw [e]
        rfl
      have pz : phi { seenM m m.seen with seen := partM (seenM m m.seen).part (m.left - m.seen), rank := rank } + 1 ≤ phi m := by
        unfold phi
        show 1 + (match m.part with | none => 0 | some p => ((m.left - m.seen - partM (seenM m m.seen).part (m.left - m.seen) + p - 1) / p).toNat) + 1 ≤ 1 + (match m.part with | none => 0 | some p => ((m.left - m.seen + p - 1) / p).toNat)
        rw [ep, e]
        show 1 + ((m.left - m.seen - (if m.left - m.seen < p then m.left - m.seen else p) + p - 1) / p).toNat + 1 ≤ 1 + ((m.left - m.seen + p - 1) / p).toNat
        have q1 : (m.left - m.seen + p - 1) / p = (m.left - m.seen - 1) / p + 1 := by
          rw [show m.left - m.seen + p - 1 = (m.left - m.seen - 1) + p by omega, Int.add_ediv_of_dvd_right (Int.dvd_refl p), Int.ediv_self (by omega)]
        have q2 : 0 ≤ (m.left - m.seen - 1) / p := Int.ediv_nonneg (by omega) (by omega)
        rw [q1]
        split
        · rw [show m.left - m.seen - (m.left - m.seen) + p - 1 = p - 1 by omega, Int.ediv_eq_zero_of_lt (by omega) (by omega)]
          omega
        · rw [show m.left - m.seen - p + p - 1 = m.left - m.seen - 1 by omega]
          omega
      refine ⟨by show 0 ≤ left - m.seen; omega, by show left - m.seen ≤ left; omega, by show 2 ≤ 3; omega, .inr rfl, .inr ⟨_, rfl, ⟨?_, ?_, ?_, h4, ?_, h6, h7⟩, rfl, Nat.le_of_succ_le pz, .inr pz⟩, fun q => by cases q⟩
      · show 1 ≤ partM (seenM m m.seen).part (m.left - m.seen)
        rw [ep]
        split <;> omega
      · show partM (seenM m m.seen).part (m.left - m.seen) ≤ m.left - m.seen
        rw [ep]
        split <;> omega
      · show m.left - m.seen < 2 ^ 64
        omega
      · intro e'
        have e'' : m.part = none := e'
        rw [e] at e''
        cases e''
    · rw [if_neg z2]
      exact ⟨by show 0 ≤ left - m.seen; omega, by show left - m.seen ≤ left; omega, by show 1 ≤ 3; omega, .inr rfl, .inl rfl, fun q => by cases q⟩
theorem met_one {rows : List Row} {s : Str} {m : Row} {tl : List Row} (h : metM rows s "rank" = m :: tl) : tl = [] ∧ m ∈ rows := by
  unfold metM at h
  split at h
  · cases h
  · rw [if_neg (by decide +kernel)] at h
    have hm : m ∈ levelM rows s := by
      have : m ∈ (levelM rows s).take 1 := by rw [h]; exact List.mem_cons_self
      exact List.mem_of_mem_take this
    constructor
    · have := congrArg List.length h
      rw [List.length_take] at this
      simp only [List.length_cons] at this
      have : tl.length = 0 := by omega
      exact List.length_eq_zero_iff.mp this
    · unfold levelM at hm
      have h2 := List.mem_mergeSort.mp hm
      exact (List.mem_filter.mp (List.mem_filter.mp h2).1).1
theorem step_ok {rows : List Row} {c : Com} {left rank : Int} {m : Row} {tl : List Row} (hmet : metM rows (agM c.side) "rank" = m :: tl) (ok : ∀ r ∈ rows, RowOk r) (hl : 0 < left) (hg : GuardOk c.guard) : StepOk m left (stepM (metM rows (agM c.side) "rank") c left rank) := by
  obtain ⟨h1, h2⟩ := met_one hmet
  subst h1
  rw [hmet]
  unfold stepM
  by_cases q : m.who = c.who
  · rw [show [m].find? (fun r => decide (r.who = c.who)) = some m by simp [q]]
    exact own_ok (ok m h2) hl hg
  · rw [show [m].find? (fun r => decide (r.who = c.who)) = none by simp [q]]
    exact trade_ok (ok m h2) hl
/-- the state of a meeting by rank -/
structure MOk (B : Nat) (st : MSt) : Prop where
  rows : ∀ r ∈ st.rows, RowOk r
  len : st.rows.length ≤ B
  l0 : 0 ≤ st.left
  l1 : st.left < 2 ^ 64
  phi : Phi st.rows ≤ B
  ev : st.evts.length + 3 * Phi st.rows ≤ 3 * B + 3
  ev2 : 0 < st.left → st.evts.length + 3 * Phi st.rows ≤ 3 * B
def muM (st : MSt) : Nat := if 0 < st.left then Phi st.rows + 1 else 0
theorem phi_pos (r : Row) : 1 ≤ phi r := by unfold phi; omega
theorem next_ok {B : Nat} {c : Com} {st : MSt} {m : Row} {tl : List Row} (h : MOk B st) (hmet : metM st.rows (agM c.side) "rank" = m :: tl) (hl : 0 < st.left) (hg : GuardOk c.guard) : MOk B (nextM c "rank" st) ∧ muM (nextM c "rank" st) < muM st := by
  have hs := step_ok (rank := st.rank) hmet h.rows hl hg
  have hm := (met_one hmet).2
  have okm := h.rows m hm
  have e2 := h.ev2 hl
  have p1 := phi_pos m
  have e3 : muM st = Phi st.rows + 1 := by unfold muM; rw [if_pos hl]
  rw [e3]
  rw [show nextM c "rank" st = ⟨outM st.rows (stepM (metM st.rows (agM c.side) "rank") c st.left st.rank).out ++ (stepM (metM st.rows (agM c.side) "rank") c st.left st.rank).back, st.evts ++ (stepM (metM st.rows (agM c.side) "rank") c st.left st.rank).told, (stepM (metM st.rows (agM c.side) "rank") c st.left st.rank).left, (stepM (metM st.rows (agM c.side) "rank") c st.left st.rank).rank⟩ from rfl]
  generalize stepM (metM st.rows (agM c.side) "rank") c st.left st.rank = r at hs
  obtain ⟨l0, l1, ev, out, back, stay⟩ := hs
  have hP := Phi_out hm okm
  have hL := out_lt hm okm
  have okf : ∀ o, ∀ x ∈ outM st.rows o, RowOk x := fun o x hx => h.rows x (List.mem_filter.mp hx).1
  rcases out with eo | eo
  · obtain ⟨z1, z2⟩ := stay eo
    have eO : outM st.rows r.out ++ r.back = st.rows := by
      rw [eo, z2, List.append_nil]
      unfold outM
      simp
    refine ⟨⟨?_, ?_, ?_, ?_, ?_, ?_, ?_⟩, ?_⟩
    all_goals simp only [eO]
    · exact h.rows
    · exact h.len
    · omega
    · omega
    · exact h.phi
    · rw [List.length_append]; omega
    · intro q; omega
    · unfold muM
      rw [if_neg (by show ¬ 0 < r.left; omega)]
      omega
  · rw [eo]
    rcases back with eb | ⟨b, eb, okb, _, pb, pl⟩
    · rw [eb, List.append_nil]
      refine ⟨⟨okf _, by show (outM st.rows [m]).length ≤ B; have := h.len; omega, l0, by show r.left < 2 ^ 64; have := h.l1; omega, by show Phi (outM st.rows [m]) ≤ B; have := h.phi; omega, ?_, ?_⟩, ?_⟩
      · show (st.evts ++ r.told).length + 3 * Phi (outM st.rows [m]) ≤ _
        rw [List.length_append]; omega
      · intro _
        show (st.evts ++ r.told).length + 3 * Phi (outM st.rows [m]) ≤ _
        rw [List.length_append]; omega
      · unfold muM
        show (if 0 < r.left then Phi (outM st.rows [m]) + 1 else 0) < _
        split <;> omega
    · rw [eb]
      have hPb : Phi (outM st.rows [m] ++ [b]) = Phi (outM st.rows [m]) + phi b := by
        rw [Phi_app]
        show _ + (phi b + 0) = _
        rfl
      refine ⟨⟨fun x hx => ?_, by show (outM st.rows [m] ++ [b]).length ≤ B; rw [List.length_append]; have := h.len; show _ + 1 ≤ B; omega, l0, by show r.left < 2 ^ 64; have := h.l1; omega, by show Phi (outM st.rows [m] ++ [b]) ≤ B; rw [hPb]; have := h.phi; omega, ?_, ?_⟩, ?_⟩
      · rcases List.mem_append.mp hx with q | q
        · exact okf _ x q
        · rw [List.mem_singleton.mp q]; exact okb
      · show (st.evts ++ r.told).length + 3 * Phi (outM st.rows [m] ++ [b]) ≤ _
        rw [List.length_append, hPb]; omega
      · intro q
        have q : 0 < r.left := q
        show (st.evts ++ r.told).length + 3 * Phi (outM st.rows [m] ++ [b]) ≤ _
        rw [List.length_append, hPb]; omega
      · unfold muM
        show (if 0 < r.left then Phi (outM st.rows [m] ++ [b]) + 1 else 0) < _
        rw [hPb]
        split <;> omega

end
section
variable [Fam] [Tabz] {P : Program} {w : World} {K : PySem.W.Frag} {mg : Str → Option Value} {base : Heap}
local macro_rules | `(tactic| walk_at "d") => `(tactic| first | refine Or.inl ⟨_, rfl, ?_⟩ | refine ⟨Nat.le_of_ble_eq_true rfl, ?_⟩ | refine ⟨⟨_, rfl⟩, ?_⟩ | refine ⟨_, rfl, ?_⟩ | refine ⟨_, _, rfl, ?_⟩ | refine ⟨_, _, _, rfl, ?_⟩ | refine ⟨_, _, _, _, rfl, ?_⟩)
/-! ### plain_meet -/
theorem rows_lay : ∀ {rs : List Row}, (∀ r ∈ rs, RowOk r) → PyData.canLayAll0 (rs.map Row.dat) = true
  | [], _ => rfl
  | r :: rs, h => by
    show (PyData.canLay0 r.dat && PyData.canLayAll0 (rs.map Row.dat)) = true
    have h1 := h r List.mem_cons_self
    rw [Row.lay h1.2.2.2.2.2.1 h1.2.2.2.2.2.2, rows_lay fun x hx => h x (List.mem_cons_of_mem _ hx)]
    rfl
theorem Row.depth (r : Row) : r.dat.depth = 1 := by
  obtain ⟨num, who, side, price, part, left, seen, rank⟩ := r
  cases part <;> simp [Row.dat, datP, PyData.depth, PyData.depthAll]
theorem rows_depth : ∀ rs : List Row, PyData.depthAll (rs.map Row.dat) ≤ 1
  | [] => by show 0 ≤ 1; omega
  | r :: rs => by
    have := rows_depth rs
    simp only [List.map_cons, PyData.depthAll, Row.depth]
    omega
theorem Row.shaped {r : Row} (h : RowOk r) : SeqAt.shaped r.dat = true := by
  unfold SeqAt.shaped
  rw [Row.lay h.2.2.2.2.2.1 h.2.2.2.2.2.2, Row.depth]
  rfl
theorem rows_shaped {rs : List Row} (h : ∀ r ∈ rs, RowOk r) : SeqAt.shaped (.list (rs.map Row.dat)) = true := by
  have := rows_depth rs
  unfold SeqAt.shaped
  have e : (PyData.list (rs.map Row.dat)).canLay0 = true := by
    simp only [PyData.canLay0]
    exact rows_lay h
  rw [e, Bool.true_and]
  refine decide_eq_true ?_
  simp only [PyData.depth]
  omega
def meetRes (fin : MSt × Bool) : PyData := .tuple [dEvts fin.1.evts, dRows (rankM fin.1.rows), .int fin.1.left, .bool fin.2, .int fin.1.rank]
def mMeet : DM := fun rs n Q => ∃ (rows : List Row) (c : Com) (rank : Int) (band : Option Int) (anchorD : PyData) (a : Int) (B : Nat), rs = [.d (dRows rows), .d c.dat, .d (.int rank), .d (datP band), .d anchorD, .d (.str "rank")] ∧
  (band.isSome = true → anchorD = .int a) ∧ GuardOk c.guard ∧ B ≤ 1000 ∧ MOk B ⟨rows, [], c.left, rank⟩ ∧ ∀ k fin, meetF c band a "rank" k ⟨rows, [], c.left, rank⟩ = some fin → Q (.d (meetRes fin)) n
theorem L_plain_meet : ∀ rs n Q, mMeet rs n Q → plainR rs ∧ rs.length = 6 := by
  rintro rs n Q ⟨rows, c, rank, band, x, a, B, rfl, h⟩
  exact plainOf_R (ds := [_, _, _, _, _, _]) rfl
theorem in_ok {a : PyData} {ds : List PyData} (h1 : SeqAt.shaped a = true) (h2 : SeqAt.shaped (.list ds) = true) : opIn true a (.list ds) = some (.d (.bool (!ds.any fun z => PyData.eqv z a))) := if_pos ⟨h1, h2⟩
theorem any_dat (out : List Row) (d : PyData) : ((out.map Row.dat).any fun z => PyData.eqv z d) = out.any fun o => PyData.eqv o.dat d := by
  rw [List.any_map]
  rfl
abbrev s_plain_meet : Stmt := topS 12
theorem sc_plain_meet : FnScope ["rows", "coming", "rank", "band", "anchor", "rule", "side", "price", "left", "events", "halted", "met", "told", "out", "back", "row"] ["rows", "coming", "rank", "band", "anchor", "rule"] (defScope s_plain_meet) := ⟨rfl, rfl, rfl, by decide +kernel, rfl, by decide +kernel, by decide +kernel⟩

end
section
variable [Fam] [Tabz] {P : Program} {w : World} {K : PySem.W.Frag} {mg : Str → Option Value} {base : Heap}
/-! ### amounts times a number -/
def Row.times (b : Int) (r : Row) : Row := { r with part := r.part.map (· * b), left := r.left * b, seen := r.seen * b }
def Evt.times (b : Int) : Evt → Evt
  | .trade x y p a => .trade x y p (a * b)
  | .shown m n => .shown m (n * b)
  | .off m a => .off m (a * b)
  | .less r c a => .less r c (a * b)
def Res.times (b : Int) (r : Res) : Res := ⟨r.told.map (Evt.times b), r.out.map (Row.times b), r.back.map (Row.times b), r.left * b, r.rank⟩
def MSt.times (b : Int) (s : MSt) : MSt := ⟨s.rows.map (Row.times b), s.evts.map (Evt.times b), s.left * b, s.rank⟩
def Com.times (b : Int) (c : Com) : Com := { c with left := c.left * b }
section
variable {b : Int}
theorem lt_times (hb : 0 < b) {x y : Int} : x * b < y * b ↔ x < y := Int.mul_lt_mul_right hb
theorem le_times (hb : 0 < b) {x y : Int} : x * b ≤ y * b ↔ x ≤ y := Int.mul_le_mul_right hb
theorem pos_times (hb : 0 < b) {x : Int} : 0 < x * b ↔ 0 < x := by
  have := lt_times hb (x := 0) (y := x)
  rwa [Int.zero_mul] at this
theorem inj_times (hb : 0 < b) {x y : Int} (h : x * b = y * b) : x = y := Int.eq_of_mul_eq_mul_right (by omega) h
theorem min_times (hb : 0 < b) (x y : Int) : minM (x * b) (y * b) = minM x y * b := by
  unfold minM
  by_cases q : y < x
  · rw [if_pos q, if_pos ((lt_times hb).mpr q)]
  · rw [if_neg q, if_neg (fun z => q ((lt_times hb).mp z))]
theorem part_times (hb : 0 < b) (p : Option Int) (l : Int) : partM (p.map (· * b)) (l * b) = partM p l * b := by
  cases p with
  | none => rfl
  | some p =>
    show (if l * b < p * b then l * b else p * b) = (if l < p then l else p) * b
    by_cases q : l < p
    · rw [if_pos q, if_pos ((lt_times hb).mpr q)]
    · rw [if_neg q, if_neg (fun z => q ((lt_times hb).mp z))]
theorem hid_times (hb : 0 < b) (r : Row) (a : Int) : hidM (r.times b) (a * b) = (hidM r a).times b := by
  unfold hidM Row.times
  simp only [← Int.sub_mul]
  congr 1
  by_cases q : r.left - a < r.seen
  · rw [if_pos q, if_pos ((lt_times hb).mpr q)]
  · rw [if_neg q, if_neg (fun z => q ((lt_times hb).mp z))]
theorem seen_times (hb : 0 < b) (r : Row) (a : Int) : seenM (r.times b) (a * b) = (seenM r a).times b := by
  unfold seenM Row.times
  simp only [← Int.sub_mul]
  congr 1
  by_cases q : r.seen - a > 0
  · rw [if_pos q, if_pos ((pos_times hb).mpr q)]
  · rw [if_neg q, if_neg (fun z => q ((pos_times hb).mp z)), Int.zero_mul]
theorem anew_times (hb : 0 < b) (r : Row) (k : Int) : anewM [r.times b] k = ((anewM [r] k).1.map (Evt.times b), (anewM [r] k).2.1.map (Row.times b), (anewM [r] k).2.2) := by
  rw [anew_one, anew_one]
  have e1 : (r.times b).seen = r.seen * b := rfl
  have e2 : (r.times b).left = r.left * b := rfl
  have e3 : (r.times b).part = r.part.map (· * b) := rfl
  rw [e1, e2, e3, part_times hb]
  by_cases q : r.seen > 0
  · rw [if_pos q, if_pos ((pos_times hb).mpr q)]
    rfl
  · rw [if_neg q, if_neg (fun z => q ((pos_times hb).mp z))]
    by_cases q2 : r.left > 0
    · rw [if_pos q2, if_pos ((pos_times hb).mpr q2)]
      rfl
    · rw [if_neg q2, if_neg (fun z => q2 ((pos_times hb).mp z))]
      rfl
theorem own_times (hb : 0 < b) (m : Row) (c : Com) (left rank : Int) : ownM (m.times b) (c.times b) (left * b) rank = (ownM m c left rank).times b := by
  have e1 : (m.times b).left = m.left * b := rfl
  have e2 : (c.times b).guard = c.guard := rfl
  unfold ownM
  rw [e1, e2, min_times hb, hid_times hb, anew_times hb, ← Int.sub_mul]
  unfold Res.times
  split
  · rfl
  · split
    · rfl
    · split
      · simp [Evt.times, Row.times, Com.times]
      · split
        · simp [Evt.times, Row.times, Com.times]
        · rfl
theorem trades_times (hb : 0 < b) {m : Row} (ok : RowOk m) (c : Com) {left : Int} (hl : 0 < left) (rank : Int) : tradesM [m.times b] (c.times b) (left * b) rank = (tradesM [m] c left rank).times b := by
  have s1 : sharesM left (seenOf [m]) = [if m.seen ≤ left then m.seen else left] := share_one (by have := ok.1; omega) (by omega)
  have s2 : sharesM (left * b) (seenOf [m.times b]) = [(if m.seen ≤ left then m.seen else left) * b] := by
    have := share_one (left := left * b) (seen := m.seen * b) ((pos_times hb).mpr (by have := ok.1; omega)) (Int.le_of_lt ((pos_times hb).mpr hl))
    rw [show seenOf [m.times b] = [m.seen * b] from rfl, this]
    by_cases q : m.seen ≤ left
    · rw [if_pos q, if_pos ((le_times hb).mpr q)]
    · rw [if_neg q, if_neg (fun z => q ((le_times hb).mp z))]
  have a0 : 0 < (if m.seen ≤ left then m.seen else left) := by have := ok.1; split <;> omega
  unfold tradesM tradesOf
  rw [s1, s2]
  generalize (if m.seen ≤ left then m.seen else left) = a at a0
  have z1 : (([m].zip [a]).filter fun p : Row × Int => decide (0 < p.2)) = [(m, a)] := by simp [a0]
  have z2 : (([m.times b].zip [a * b]).filter fun p : Row × Int => decide (0 < p.2)) = [(m.times b, a * b)] := by
    have := (pos_times hb).mpr a0
    simp [this]
  rw [z1, z2]
  simp only [List.map_cons, List.map_nil, List.sum_cons, List.sum_nil, Int.add_zero]
  rw [seen_times hb, anew_times hb, ← Int.sub_mul]
  unfold Res.times tradeE
  have e2 : (c.times b).side = c.side := rfl
  rw [e2]
  by_cases q : c.side = "buy"
  · simp only [if_pos q]
    rfl
  · simp only [if_neg q]
    rfl
theorem step_times (hb : 0 < b) {m : Row} (ok : RowOk m) (c : Com) {left : Int} (hl : 0 < left) (rank : Int) : stepM [m.times b] (c.times b) (left * b) rank = (stepM [m] c left rank).times b := by
  unfold stepM
  have e : (m.times b).who = m.who := rfl
  have e2 : (c.times b).who = c.who := rfl
  by_cases q : m.who = c.who
  · rw [show [m].find? (fun r => decide (r.who = c.who)) = some m by simp [q], show [m.times b].find? (fun r => decide (r.who = (c.times b).who)) = some (m.times b) by simp [e, e2, q]]
    exact own_times hb m c left rank
  · rw [show [m].find? (fun r => decide (r.who = c.who)) = none by simp [q], show [m.times b].find? (fun r => decide (r.who = (c.times b).who)) = none by simp [e, e2, q]]
    exact trades_times hb ok c hl rank
theorem side_times (rows : List Row) (s : Str) : sideM (rows.map (Row.times b)) s = (sideM rows s).map (Row.times b) := by
  unfold sideM
  rw [List.filter_map]
  rfl
theorem met_times (rows : List Row) (s rule : Str) : metM (rows.map (Row.times b)) s rule = (metM rows s rule).map (Row.times b) := by
  have el : levelM (rows.map (Row.times b)) s = (levelM rows s).map (Row.times b) := by
    unfold levelM
    rw [side_times, List.map_map, show (Row.price ∘ Row.times b) = Row.price from rfl, List.filter_map, List.map_mergeSort (s := leRank)]
    · rfl
    · intro x _ y _
      rfl
  unfold metM
  rw [side_times, el]
  have e0 : ((sideM rows s).map (Row.times b)).isEmpty = (sideM rows s).isEmpty := by
    cases sideM rows s <;> rfl
  rw [e0]
  split
  · rfl
  · split
    · rfl
    · rw [List.map_take]
theorem rank_times (rows : List Row) : rankM (rows.map (Row.times b)) = (rankM rows).map (Row.times b) := by
  unfold rankM
  rw [side_times, side_times, List.map_append, List.map_mergeSort (s := leRow true), List.map_mergeSort (s := leRow false)]
  · intro x _ y _
    rfl
  · intro x _ y _
    rfl
theorem eqv_row (o r : Row) : PyData.eqv o.dat r.dat = true ↔ o = r := by
  obtain ⟨n1, w1, s1, p1, q1, l1, e1, k1⟩ := o
  obtain ⟨n2, w2, s2, p2, q2, l2, e2, k2⟩ := r
  cases q1 <;> cases q2 <;> simp [Row.dat, datP, PyData.eqv, PyData.eqvAll]
theorem row_inj (hb : 0 < b) {o r : Row} (h : o.times b = r.times b) : o = r := by
  obtain ⟨n1, w1, s1, p1, q1, l1, e1, k1⟩ := o
  obtain ⟨n2, w2, s2, p2, q2, l2, e2, k2⟩ := r
  unfold Row.times at h
  simp only [Row.mk.injEq] at h ⊢
  obtain ⟨a1, a2, a3, a4, a5, a6, a7, a8⟩ := h
  refine ⟨a1, a2, a3, a4, ?_, inj_times hb a6, inj_times hb a7, a8⟩
  cases q1 <;> cases q2 <;> simp at a5 ⊢
  exact inj_times hb a5
theorem out_times (hb : 0 < b) (rows out : List Row) : outM (rows.map (Row.times b)) (out.map (Row.times b)) = (outM rows out).map (Row.times b) := by
  unfold outM
  rw [List.filter_map]
  congr 2
  funext r
  show (!((out.map (Row.times b)).any fun o => PyData.eqv o.dat (r.times b).dat)) = _
  rw [List.any_map]
  congr 2
  funext o
  show PyData.eqv (o.times b).dat (r.times b).dat = PyData.eqv o.dat r.dat
  rw [Bool.eq_iff_iff, eqv_row, eqv_row]
  exact ⟨row_inj hb, fun z => by rw [z]⟩
theorem next_times (hb : 0 < b) {c : Com} {st : MSt} {m : Row} {tl : List Row} (hmet : metM st.rows (agM c.side) "rank" = m :: tl) (ok : ∀ r ∈ st.rows, RowOk r) (hl : 0 < st.left) : nextM (c.times b) "rank" (st.times b) = (nextM c "rank" st).times b := by
  obtain ⟨z, hm⟩ := met_one hmet
  subst z
  unfold nextM
  have e1 : (st.times b).rows = st.rows.map (Row.times b) := rfl
  have e2 : (c.times b).side = c.side := rfl
  have e3 : (st.times b).left = st.left * b := rfl
  have e4 : (st.times b).rank = st.rank := rfl
  have e5 : (st.times b).evts = st.evts.map (Evt.times b) := rfl
  rw [e1, e2, e3, e4, e5, met_times, hmet, List.map_cons, List.map_nil, step_times hb (ok m hm) c hl]
  generalize stepM [m] c st.left st.rank = r
  show MSt.mk (outM (st.rows.map (Row.times b)) (r.out.map (Row.times b)) ++ r.back.map (Row.times b)) (st.evts.map (Evt.times b) ++ r.told.map (Evt.times b)) (r.left * b) r.rank = _
  rw [out_times hb, ← List.map_append, ← List.map_append]
  rfl
theorem meet_times (hb : 0 < b) {B : Nat} {c : Com} (hg : GuardOk c.guard) (band : Option Int) (a : Int) : ∀ (k : Nat) (st : MSt), MOk B st → meetF (c.times b) band a "rank" k (st.times b) = (meetF c band a "rank" k st).map fun f => (f.1.times b, f.2)
  | 0, _, _ => rfl
  | k + 1, st, ok => by
    have e1 : (st.times b).rows = st.rows.map (Row.times b) := rfl
    have e3 : (st.times b).left = st.left * b := rfl
    unfold meetF
    rw [e1, e3, show (c.times b).side = c.side from rfl, show (c.times b).price = c.price from rfl, met_times]
    by_cases q : 0 < st.left
    · rw [if_pos q, if_pos ((pos_times hb).mpr q)]
      cases hmet : metM st.rows (agM c.side) "rank" with
      | nil => rfl
      | cons m tl =>
        show (if letsM c.price c.side m.price = true then (if farM m.price band a = true then some (st.times b, true) else meetF (c.times b) band a "rank" k (nextM (c.times b) "rank" (st.times b))) else some (st.times b, false)) = _
        dsimp only
        split
        · split
          · rfl
          · rw [next_times hb hmet ok.rows q]
            exact meet_times hb hg band a k _ (next_ok ok hmet q hg).1
        · rfl
    · rw [if_neg q, if_neg (fun z => q ((pos_times hb).mp z))]
      rfl
end
theorem meet_more {c : Com} {band : Option Int} {a : Int} {rule : Str} : ∀ {k j : Nat} {st : MSt} {fin : MSt × Bool}, meetF c band a rule k st = some fin → k ≤ j → meetF c band a rule j st = some fin
  | 0, _, _, _, h, _ => by cases h
  | k + 1, 0, _, _, _, h => by omega
  | k + 1, j + 1, st, fin, h, hj => by
    unfold meetF at h ⊢
    by_cases q : 0 < st.left
    · rw [if_pos q] at h ⊢
      split at h
      · exact h
      · split at h
        · rename_i q1
          rw [if_pos q1]
          split at h
          · rename_i q2
            rw [if_pos q2]
            exact h
          · rename_i q2
            rw [if_neg q2]
            exact meet_more h (by omega)
        · rename_i q1
          rw [if_neg q1]
          exact h
    · rw [if_neg q] at h ⊢
      exact h
theorem meet_same {c : Com} {band : Option Int} {a : Int} {rule : Str} {k j : Nat} {st : MSt} {f g : MSt × Bool} (h1 : meetF c band a rule k st = some f) (h2 : meetF c band a rule j st = some g) : f = g := by
  have e1 := meet_more h1 (Nat.le_max_left k j)
  have e2 := meet_more h2 (Nat.le_max_right k j)
  rw [e1] at e2
  exact Option.some.inj e2

end
section
variable [Fam] [Tabz] {P : Program} {w : World} {K : PySem.W.Frag} {mg : Str → Option Value} {base : Heap}
/-! ### meetings by either rule: shares -/
theorem idx_sum : ∀ (xs : List Int) (d : Int), d ≤ xs.length → (xs.mapIdx fun i p => if (i : Int) < d then p + 1 else p).sum = xs.sum + (if 0 < d then d else 0)
  | [], d, h => by
    have : ¬ 0 < d := by simp at h; omega
    simp [this]
  | x :: xs, d, h => by
    rw [List.mapIdx_cons]
    have e : (xs.mapIdx fun i p => if ((i + 1 : Nat) : Int) < d then p + 1 else p) = xs.mapIdx fun i p => if (i : Int) < d - 1 then p + 1 else p := by
      congr 1
      funext i p
      by_cases q : (i : Int) < d - 1
      · rw [if_pos q, if_pos (by omega)]
      · rw [if_neg q, if_neg (by omega)]
    have ih := idx_sum xs (d - 1) (by simp only [List.length_cons] at h; omega)
    simp only [List.sum_cons]
    rw [e, ih]
    by_cases q : 0 < d
    · rw [if_pos (show ((0 : Nat) : Int) < d from q), if_pos q]
      split <;> omega
    · rw [if_neg (show ¬ ((0 : Nat) : Int) < d from q), if_neg q, if_neg (by omega)]
      omega
theorem mul_sum (b : Int) : ∀ xs : List Int, (xs.map fun x => b * x).sum = b * xs.sum
  | [] => by simp
  | x :: xs => by
    simp only [List.map_cons, List.sum_cons]
    rw [mul_sum b xs, Int.mul_add]
theorem floor_sum {left S : Int} (hS : 0 < S) : ∀ xs : List Int, S * (xs.map fun p => left * p / S).sum ≤ left * xs.sum ∧ left * xs.sum ≤ S * (xs.map fun p => left * p / S).sum + (S - 1) * xs.length
  | [] => by simp
  | x :: xs => by
    have ih := floor_sum (left := left) hS xs
    have h1 : S * (left * x / S) ≤ left * x := Int.mul_ediv_self_le (by omega)
    have h2 : left * x < S * (left * x / S) + S := Int.lt_mul_ediv_self_add hS
    simp only [List.map_cons, List.sum_cons, List.length_cons]
    rw [Int.mul_add, Int.mul_add]
    have e : (S - 1) * ((xs.length + 1 : Nat) : Int) = (S - 1) * (xs.length : Int) + (S - 1) := by
      rw [Int.natCast_add, Int.mul_add]
      simp
    rw [e]
    omega
theorem sum_pos {xs : List Int} (h : ∀ x ∈ xs, 1 ≤ x) : 0 ≤ xs.sum ∧ (xs ≠ [] → 0 < xs.sum) := by
  induction xs with
  | nil => exact ⟨by simp, fun z => absurd rfl z⟩
  | cons x xs ih =>
    have h1 := h x List.mem_cons_self
    have h2 := (ih fun y hy => h y (List.mem_cons_of_mem _ hy)).1
    simp only [List.sum_cons]
    exact ⟨by omega, fun _ => by omega⟩
structure SharesOk (left : Int) (seen am : List Int) : Prop where
  len : am.length = seen.length
  le : ∀ (i : Nat) (a s : Int), am[i]? = some a → seen[i]? = some s → 0 ≤ a ∧ a ≤ s
  all : seen.sum ≤ left → am = seen
  sum : am.sum ≤ left
  full : left < seen.sum → am.sum = left
theorem shares_ok {left : Int} {seen : List Int} (hl : 0 ≤ left) (hs : ∀ x ∈ seen, 1 ≤ x) : SharesOk left seen (sharesM left seen) := by
  have hlen := shares_len left seen
  unfold sharesM at hlen ⊢
  by_cases q : seen.sum ≤ left
  · rw [if_pos q]
    exact ⟨rfl, fun i a s h1 h2 => by
      rw [h1] at h2
      cases h2
      have := hs a (List.mem_of_getElem? h1)
      omega, fun _ => rfl, q, fun z => absurd q (by omega)⟩
  · rw [if_neg q] at hlen ⊢
    have hS : 0 < seen.sum := by omega
    have hne : seen ≠ [] := fun z => by rw [z] at hS; simp at hS
    have hk : 0 < seen.length := List.length_pos_iff.mpr hne
    obtain ⟨f1, f2⟩ := floor_sum (left := left) hS seen
    generalize hF : (seen.map fun p => left * p / seen.sum).sum = F at *
    have g1 : F ≤ left := by
      have : seen.sum * F ≤ seen.sum * left := by rw [Int.mul_comm seen.sum left]; exact f1
      exact Int.le_of_mul_le_mul_left this hS
    have g2 : left - F < seen.length := by
      apply Classical.byContradiction
      intro z
      have z : (seen.length : Int) ≤ left - F := by omega
      have h1 : seen.sum * (seen.length : Int) ≤ seen.sum * (left - F) := Int.mul_le_mul_of_nonneg_left z (by omega)
      rw [Int.mul_sub] at h1
      rw [Int.mul_comm left seen.sum] at f2
      have h2 : (seen.sum - 1) * (seen.length : Int) = seen.sum * seen.length - seen.length := by rw [Int.sub_mul]; simp
      omega
    have hsum := idx_sum (seen.map fun p => left * p / seen.sum) (left - F) (by rw [List.length_map]; omega)
    rw [hF] at hsum
    have hsum2 : ((seen.map fun p => left * p / seen.sum).mapIdx fun i p => if (i : Int) < left - F then p + 1 else p).sum = left := by
      rw [hsum]
      split <;> omega
    refine ⟨hlen, fun i a s h1 h2 => ?_, fun z => absurd z q, by rw [hsum2]; exact Int.le_refl _, fun _ => hsum2⟩
    rw [List.getElem?_mapIdx, List.getElem?_map, h2] at h1
    have h1' : some (if (i : Int) < left - F then left * s / seen.sum + 1 else left * s / seen.sum) = some a := h1
    cases h1'
    have s1 := hs s (List.mem_of_getElem? h2)
    have p0 : 0 ≤ left * s / seen.sum := Int.ediv_nonneg (Int.mul_nonneg hl (by omega)) (by omega)
    have p1 : left * s / seen.sum < s := by
      refine Int.ediv_lt_of_lt_mul hS ?_
      rw [Int.mul_comm s]
      exact Int.mul_lt_mul_of_pos_right (by omega) (by omega)
    split <;> omega
/-! ### meetings by either rule: what is traded -/
structure PairOk (p : Row × Int) : Prop where
  ok : RowOk p.1
  a0 : 0 < p.2
  a1 : p.2 ≤ p.1.seen
def AnewOk (ps : List (Row × Int)) (s : Nat) (back : List Row) : Prop := (∀ b ∈ back, RowOk b) ∧ back.length ≤ ps.length ∧ s + Phi back ≤ Phi (ps.map Prod.fst) ∧ ((∀ p ∈ ps, p.2 = p.1.seen) → ps.length + Phi back ≤ Phi (ps.map Prod.fst))
theorem anew_all : ∀ (ps : List (Row × Int)) (a : List Evt × List Row × Int), (∀ p ∈ ps, PairOk p) → ∃ (sh : List Evt) (back : List Row) (k : Int), (ps.map fun p => seenM p.1 p.2).foldl anewS a = (a.1 ++ sh, a.2.1 ++ back, k) ∧ AnewOk ps sh.length back
  | [], a, _ => ⟨[], [], a.2.2, by simp, fun b hb => (by cases hb), Nat.le_refl _, Nat.le_refl _, fun _ => Nat.le_refl _⟩
  | p :: ps, a, h => by
    obtain ⟨m, x⟩ := p
    obtain ⟨okm, a0, a1⟩ := h (m, x) List.mem_cons_self
    have okm2 : RowOk m := okm
    obtain ⟨h1, h2, h3, h4, h5, h6, h7⟩ := okm2
    have a0 : 0 < x := a0
    have a1 : x ≤ m.seen := a1
    obtain ⟨sh, back, k, e, b1, b2, b3, b4⟩ := anew_all ps (anewS a (seenM m x)) fun p hp => h p (List.mem_cons_of_mem _ hp)
    have PhiC : Phi ((m, x) :: ps |>.map Prod.fst) = phi m + Phi (ps.map Prod.fst) := rfl
    rw [List.map_cons, List.foldl_cons]
    rw [e]
    have hs : (seenM m x).seen = if m.seen - x > 0 then m.seen - x else 0 := rfl
    have hl' : (seenM m x).left = m.left - x := rfl
    by_cases z : m.seen - x > 0
    · have e1 : anewS a (seenM m x) = (a.1, a.2.1 ++ [seenM m x], a.2.2) := by
        unfold anewS
        rw [if_pos (by rw [hs, if_pos z]; exact z)]
      have pz : phi (seenM m x) ≤ phi m := by
        unfold phi
        rw [hs, if_pos z, hl']
        show 1 + (match m.part with | none => 0 | some p => ((m.left - x - (m.seen - x) + p - 1) / p).toNat) ≤ _
        rw [show m.left - x - (m.seen - x) = m.left - m.seen by omega]
        exact Nat.le_refl _
      have okb : RowOk (seenM m x) := by
        refine ⟨?_, ?_, ?_, h4, ?_, h6, h7⟩
        · rw [hs, if_pos z]; omega
        · rw [hs, if_pos z, hl']; omega
        · rw [hl']; omega
        · intro e
          have := h5 e
          rw [hs, if_pos z, hl']
          omega
      rw [e1]
      refine ⟨sh, seenM m x :: back, k, by simp, fun b hb => ?_, by show back.length + 1 ≤ ps.length + 1; omega, ?_, fun hall => ?_⟩
      · rcases List.mem_cons.mp hb with e | e
        · rw [e]; exact okb
        · exact b1 b e
      · rw [PhiC]
        show sh.length + (phi (seenM m x) + Phi back) ≤ _
        omega
      · have : x = m.seen := hall (m, x) List.mem_cons_self
        omega
    · have az : x = m.seen := by omega
      subst az
      by_cases z2 : m.left - m.seen > 0
      · obtain ⟨p, ep⟩ : ∃ p, m.part = some p := by
          cases e : m.part with
          | none => have := h5 e; omega
          | some p => exact ⟨p, rfl⟩
        have hp := h4 p ep
        have epart : partM (seenM m m.seen).part (m.left - m.seen) = if m.left - m.seen < p then m.left - m.seen else p := by
          show partM m.part _ = _
          rw [ep]
          rfl
        have e1 : anewS a (seenM m m.seen) = (a.1 ++ [.shown m.num (partM (seenM m m.seen).part (m.left - m.seen))], a.2.1 ++ [{ seenM m m.seen with seen := partM (seenM m m.seen).part (m.left - m.seen), rank := a.2.2 }], a.2.2 + 1) := by
          unfold anewS
          rw [if_neg (by rw [hs, if_neg z]; omega), if_pos (by rw [hl']; exact z2)]
          rfl
        have pz : ∀ rk, phi { seenM m m.seen with seen := partM (seenM m m.seen).part (m.left - m.seen), rank := rk } + 1 ≤ phi m := by
          intro rk
          unfold phi
          show 1 + (match m.part with | none => 0 | some p => ((m.left - m.seen - partM (seenM m m.seen).part (m.left - m.seen) + p - 1) / p).toNat) + 1 ≤ 1 + (match m.part with | none => 0 | some p => ((m.left - m.seen + p - 1) / p).toNat)
          rw [epart, ep]
          show 1 + ((m.left - m.seen - (if m.left - m.seen < p then m.left - m.seen else p) + p - 1) / p).toNat + 1 ≤ 1 + ((m.left - m.seen + p - 1) / p).toNat
          have q1 : (m.left - m.seen + p - 1) / p = (m.left - m.seen - 1) / p + 1 := by
            rw [show m.left - m.seen + p - 1 = (m.left - m.seen - 1) + p by omega, Int.add_ediv_of_dvd_right (Int.dvd_refl p), Int.ediv_self (by omega)]
          have q2 : 0 ≤ (m.left - m.seen - 1) / p := Int.ediv_nonneg (by omega) (by omega)
          rw [q1]
          split
          · rw [show m.left - m.seen - (m.left - m.seen) + p - 1 = p - 1 by omega, Int.ediv_eq_zero_of_lt (by omega) (by omega)]
            omega
          · rw [show m.left - m.seen - p + p - 1 = m.left - m.seen - 1 by omega]
            omega
        have okb : ∀ rk, RowOk { seenM m m.seen with seen := partM (seenM m m.seen).part (m.left - m.seen), rank := rk } := by
          intro rk
          refine ⟨?_, ?_, ?_, h4, ?_, h6, h7⟩
          · show 1 ≤ partM (seenM m m.seen).part (m.left - m.seen)
            rw [epart]
            split <;> omega
          · show partM (seenM m m.seen).part (m.left - m.seen) ≤ m.left - m.seen
            rw [epart]
            split <;> omega
          · show m.left - m.seen < 2 ^ 64
            omega
          · intro e'
            have e'' : m.part = none := e'
            rw [ep] at e''
            cases e''
        have pz' := pz a.2.2
        have okb' := okb a.2.2
        rw [e1]
        generalize ({ seenM m m.seen with seen := partM (seenM m m.seen).part (m.left - m.seen), rank := a.2.2 } : Row) = nb at pz' okb'
        refine ⟨_ :: sh, nb :: back, k, by simp; rfl, fun b hb => ?_, by show back.length + 1 ≤ ps.length + 1; omega, ?_, fun hall => ?_⟩
        · rcases List.mem_cons.mp hb with e | e
          · rw [e]; exact okb'
          · exact b1 b e
        · rw [PhiC]
          show sh.length + 1 + (phi nb + Phi back) ≤ _
          omega
        · have := b4 fun p hp => hall p (List.mem_cons_of_mem _ hp)
          rw [PhiC]
          show ps.length + 1 + (phi nb + Phi back) ≤ _
          omega
      · have e1 : anewS a (seenM m m.seen) = a := by
          unfold anewS
          rw [if_neg (by rw [hs, if_neg z]; omega), if_neg (by rw [hl']; exact z2)]
        have pm := phi_pos m
        rw [e1]
        refine ⟨sh, back, k, rfl, b1, by show back.length ≤ ps.length + 1; omega, ?_, fun hall => ?_⟩
        · rw [PhiC]; omega
        · have := b4 fun p hp => hall p (List.mem_cons_of_mem _ hp)
          rw [PhiC]
          show ps.length + 1 + Phi back ≤ _
          omega

end
section
variable [Fam] [Tabz] {P : Program} {w : World} {K : PySem.W.Frag} {mg : Str → Option Value} {base : Heap}
/-! ### meetings by either rule: a step -/
theorem Phi_sub {a b : List Row} (h : a.Sublist b) : Phi a ≤ Phi b := by
  induction h with
  | slnil => exact Nat.le_refl _
  | cons x _ ih => show _ ≤ phi x + Phi _; omega
  | cons_cons x _ ih => show phi x + Phi _ ≤ phi x + Phi _; omega
theorem Phi_permA {a b : List Row} (p : a.Perm b) : Phi a = Phi b := by
  unfold Phi
  induction p with
  | nil => rfl
  | cons x _ ih => simp only [List.map_cons, List.sum_cons, ih]
  | swap x y l => simp only [List.map_cons, List.sum_cons]; omega
  | trans _ _ h1 h2 => exact h1.trans h2
structure StepA (ms : List Row) (left : Int) (r : Res) : Prop where
  l0 : 0 ≤ r.left
  l1 : r.left ≤ left
  sub : r.out.Sublist ms
  back : ∀ b ∈ r.back, RowOk b
  blen : r.back.length ≤ r.out.length
  pot0 : Phi r.back ≤ Phi r.out
  pot : 0 < r.left → r.told.length + 3 * Phi r.back ≤ 3 * Phi r.out ∧ Phi r.back + 1 ≤ Phi r.out
  pote : r.told.length + 3 * Phi r.back ≤ 3 * Phi r.out + Phi ms + 3
theorem own_A {ms : List Row} {m : Row} {left : Int} {r : Res} (h : StepOk m left r) (hm : m ∈ ms) : StepA ms left r := by
  obtain ⟨l0, l1, ev, out, back, stay⟩ := h
  have pm := phi_pos m
  have P1 : ∀ x : Row, Phi [x] = phi x := fun x => Nat.add_zero _
  rcases out with eo | eo
  · obtain ⟨z1, z2⟩ := stay eo
    rw [show r = ⟨r.told, r.out, r.back, r.left, r.rank⟩ from rfl, eo, z2]
    refine ⟨l0, l1, List.nil_sublist _, fun b hb => (by cases hb), Nat.le_refl _, Nat.le_refl _, fun q => ?_, ?_⟩
    · have q : 0 < r.left := q
      omega
    · show r.told.length + 3 * 0 ≤ 3 * 0 + Phi ms + 3
      omega
  · rcases back with eb | ⟨b, eb, okb, _, pb, pl⟩
    · rw [show r = ⟨r.told, r.out, r.back, r.left, r.rank⟩ from rfl, eo, eb]
      refine ⟨l0, l1, List.singleton_sublist.mpr hm, fun b hb => (by cases hb), Nat.zero_le _, Nat.zero_le _, fun q => ⟨?_, ?_⟩, ?_⟩
      · show r.told.length + 3 * 0 ≤ 3 * Phi [m]
        rw [P1]; omega
      · show 0 + 1 ≤ Phi [m]
        rw [P1]; omega
      · show r.told.length + 3 * 0 ≤ 3 * Phi [m] + Phi ms + 3
        omega
    · rw [show r = ⟨r.told, r.out, r.back, r.left, r.rank⟩ from rfl, eo, eb]
      refine ⟨l0, l1, List.singleton_sublist.mpr hm, fun x hx => ?_, Nat.le_refl _, ?_, fun q => ?_, ?_⟩
      · rw [List.mem_singleton.mp hx]; exact okb
      · show Phi [b] ≤ Phi [m]
        rw [P1, P1]; exact pb
      · have q : 0 < r.left := q
        show r.told.length + 3 * Phi [b] ≤ 3 * Phi [m] ∧ Phi [b] + 1 ≤ Phi [m]
        rw [P1, P1]
        omega
      · show r.told.length + 3 * Phi [b] ≤ 3 * Phi [m] + Phi ms + 3
        rw [P1, P1]
        omega
theorem trades_A {ms : List Row} {c : Com} {left rank : Int} (ok : ∀ r ∈ ms, RowOk r) (hne : ms ≠ []) (hl : 0 < left) : StepA ms left (tradesM ms c left rank) := by
  have hseen : ∀ x ∈ seenOf ms, 1 ≤ x := fun x hx => by
    obtain ⟨r, hr, rfl⟩ := List.mem_map.mp hx
    exact (ok r hr).1
  have S := shares_ok (left := left) (by omega) hseen
  have hlen : (sharesM left (seenOf ms)).length = ms.length := by rw [S.len]; exact List.length_map _
  unfold tradesM
  generalize sharesM left (seenOf ms) = am at S hlen ⊢
  have hp : ∀ p ∈ tradesOf ms am, PairOk p ∧ (seenOf ms = am → p.2 = p.1.seen) := fun p hp => by
    obtain ⟨h1, h2⟩ := List.mem_filter.mp hp
    have h2 : 0 < p.2 := of_decide_eq_true h2
    obtain ⟨i, hi⟩ := List.mem_iff_getElem?.mp h1
    obtain ⟨g1, g2⟩ := List.getElem?_zip_eq_some.mp hi
    have g3 : (seenOf ms)[i]? = some p.1.seen := by
      unfold seenOf
      rw [List.getElem?_map, g1]
      rfl
    have g4 := S.le i p.2 p.1.seen g2 g3
    refine ⟨⟨ok p.1 (List.mem_of_getElem? g1), h2, g4.2⟩, fun e => ?_⟩
    rw [e, g2] at g3
    exact Option.some.inj g3
  have hsub : ((tradesOf ms am).map Prod.fst).Sublist ms := by
    have e : (ms.zip am).map Prod.fst = ms := List.map_fst_zip (by omega)
    have := (List.filter_sublist (l := ms.zip am) (p := fun p : Row × Int => decide (0 < p.2))).map Prod.fst
    rw [e] at this
    exact this
  have hfull : seenOf ms = am → tradesOf ms am ≠ [] := fun e z => by
    obtain ⟨m, hm⟩ := List.exists_mem_of_ne_nil ms hne
    obtain ⟨i, hi⟩ := List.mem_iff_getElem?.mp hm
    have g3 : am[i]? = some m.seen := by
      rw [← e]
      unfold seenOf
      rw [List.getElem?_map, hi]
      rfl
    have g4 : (m, m.seen) ∈ tradesOf ms am := List.mem_filter.mpr ⟨List.mem_iff_getElem?.mpr ⟨i, List.getElem?_zip_eq_some.mpr ⟨hi, g3⟩⟩, decide_eq_true (by have := (ok m hm).1; show 0 < m.seen; omega)⟩
    rw [z] at g4
    cases g4
  generalize tradesOf ms am = ps at hp hsub hfull ⊢
  obtain ⟨sh, back, k, e, b1, b2, b3, b4⟩ := anew_all ps ([], [], rank) fun p h => (hp p h).1
  have e' : anewM (ps.map fun p => seenM p.1 p.2) rank = (sh, back, k) := by
    unfold anewM
    rw [e]
    simp
  simp only [e']
  have hPs := Phi_sub hsub
  have hpl : ps.length ≤ Phi (ps.map Prod.fst) := by
    clear hp hsub hfull e e' b1 b2 b3 b4 hPs
    induction ps with
    | nil => exact Nat.le_refl _
    | cons p ps ih =>
      have := phi_pos p.1
      show ps.length + 1 ≤ phi p.1 + Phi (ps.map Prod.fst)
      omega
  have hsum0 : 0 ≤ am.sum := by
    have : ∀ xs : List Int, (∀ x ∈ xs, 0 ≤ x) → 0 ≤ xs.sum := fun xs => by
      induction xs with
      | nil => intro _; simp
      | cons x xs ih =>
        intro h
        have h1 := h x List.mem_cons_self
        have h2 := ih fun y hy => h y (List.mem_cons_of_mem _ hy)
        simp only [List.sum_cons]
        omega
    refine this am fun x hx => ?_
    obtain ⟨i, hi⟩ := List.mem_iff_getElem?.mp hx
    have hil : i < (seenOf ms).length := by
      rw [← S.len]
      exact (List.getElem?_eq_some_iff.mp hi).1
    exact (S.le i x _ hi (List.getElem?_eq_getElem hil)).1
  refine ⟨?_, ?_, hsub, b1, by rw [List.length_map]; exact b2, by show Phi back ≤ Phi (ps.map Prod.fst); omega, fun q => ?_, ?_⟩
  · have := S.sum
    show 0 ≤ left - am.sum
    omega
  · show left - am.sum ≤ left
    omega
  · have q : 0 < left - am.sum := q
    have hfe : seenOf ms = am := by
      apply Classical.byContradiction
      intro z
      by_cases h9 : (seenOf ms).sum ≤ left
      · exact z (S.all h9).symm
      · have := S.full (by omega)
        omega
    have h4 := b4 fun p h => (hp p h).2 hfe
    have hne2 := List.length_pos_iff.mpr (hfull hfe)
    show (ps.map (tradeE c) ++ sh).length + 3 * Phi back ≤ 3 * Phi (ps.map Prod.fst) ∧ Phi back + 1 ≤ Phi (ps.map Prod.fst)
    rw [List.length_append, List.length_map]
    omega
  · show (ps.map (tradeE c) ++ sh).length + 3 * Phi back ≤ 3 * Phi (ps.map Prod.fst) + Phi ms + 3
    rw [List.length_append, List.length_map]
    omega
theorem step_A {ms : List Row} {c : Com} {left rank : Int} (ok : ∀ r ∈ ms, RowOk r) (hne : ms ≠ []) (hl : 0 < left) (hg : GuardOk c.guard) : StepA ms left (stepM ms c left rank) := by
  unfold stepM
  cases e : ms.find? (fun r => decide (r.who = c.who)) with
  | none => exact trades_A ok hne hl
  | some m =>
    have hm := List.mem_of_find?_eq_some e
    exact own_A (own_ok (ok m hm) hl hg) hm
/-- the rows that are met are of the rows -/
def RuleOk (rule : Str) : Prop := rule = "rank" ∨ rule = "share"
theorem met_sub {rows : List Row} {s rule : Str} : ∃ q : Row → Bool, ∃ L : List Row, (metM rows s rule).Sublist L ∧ L.Perm (rows.filter q) := by
  refine ⟨fun r => decide (r.side = s) && decide (r.price = bestM s ((sideM rows s).map Row.price)), levelM rows s, ?_, ?_⟩
  · unfold metM
    split
    · exact List.nil_sublist _
    · split
      · exact List.Sublist.refl _
      · exact List.take_sublist _ _
  · unfold levelM
    refine (List.mergeSort_perm _ _).trans ?_
    unfold sideM
    rw [List.filter_filter]
    refine List.Perm.of_eq ?_
    congr 1
    funext r
    exact Bool.and_comm _ _
theorem met_mem {rows : List Row} {s rule : Str} {r : Row} (h : r ∈ metM rows s rule) : r ∈ rows := by
  obtain ⟨q, L, h1, h2⟩ := met_sub (rows := rows) (s := s) (rule := rule)
  exact (List.mem_filter.mp (h2.mem_iff.mp (h1.subset h))).1
theorem out_A {rows out : List Row} {s rule : Str} (h : out.Sublist (metM rows s rule)) (ok : ∀ r ∈ rows, RowOk r) : Phi (outM rows out) + Phi out ≤ Phi rows ∧ (outM rows out).length + out.length ≤ rows.length := by
  obtain ⟨q, L, h1, h2⟩ := met_sub (rows := rows) (s := s) (rule := rule)
  have hs := h.trans h1
  have okO : ∀ r ∈ out, RowOk r := fun r hr => ok r (List.mem_filter.mp (h2.mem_iff.mp (hs.subset hr))).1
  have key : ∀ f : Row → Bool, (∀ r ∈ out, f r = true) → ∃ M : List Row, out.Sublist M ∧ M.Perm ((rows.filter q).filter f) := fun f hf => by
    refine ⟨L.filter f, ?_, h2.filter f⟩
    have e : out.filter f = out := List.filter_eq_self.mpr hf
    rw [← e]
    exact hs.filter f
  obtain ⟨M, m1, m2⟩ := key (fun r => out.any fun o => PyData.eqv o.dat r.dat) fun r hr => List.any_eq_true.mpr ⟨r, hr, Row.self (okO r hr)⟩
  have m3 : ((rows.filter q).filter fun r => out.any fun o => PyData.eqv o.dat r.dat).Sublist (rows.filter fun r => out.any fun o => PyData.eqv o.dat r.dat) := by
    refine List.Sublist.filter _ ?_
    exact List.filter_sublist
  have split2 : ∀ xs : List Row, Phi (xs.filter fun r => !(out.any fun o => PyData.eqv o.dat r.dat)) + Phi (xs.filter fun r => out.any fun o => PyData.eqv o.dat r.dat) = Phi xs ∧ (xs.filter fun r => !(out.any fun o => PyData.eqv o.dat r.dat)).length + (xs.filter fun r => out.any fun o => PyData.eqv o.dat r.dat).length = xs.length := fun xs => by
    induction xs with
    | nil => exact ⟨rfl, rfl⟩
    | cons x xs ih =>
      rw [List.filter_cons, List.filter_cons]
      cases hx : out.any fun o => PyData.eqv o.dat x.dat with
      | true =>
        simp only [Bool.not_true, Bool.false_eq_true, if_false, if_true]
        refine ⟨?_, ?_⟩
        · show _ + (phi x + Phi _) = phi x + Phi xs
          omega
        · simp only [List.length_cons]
          omega
      | false =>
        simp only [Bool.not_false, Bool.false_eq_true, if_false, if_true]
        refine ⟨?_, ?_⟩
        · show phi x + Phi _ + _ = phi x + Phi xs
          omega
        · simp only [List.length_cons]
          omega
  obtain ⟨s1, s2⟩ := split2 rows
  have p1 := Phi_sub m1
  rw [Phi_permA m2] at p1
  have p2 := Phi_sub m3
  have q1 := m1.length_le
  rw [m2.length_eq] at q1
  have q2 := m3.length_le
  unfold outM
  exact ⟨by omega, by omega⟩
/-- the state of a meeting by either rule -/
structure AOk (B : Nat) (st : MSt) : Prop where
  rows : ∀ r ∈ st.rows, RowOk r
  len : st.rows.length ≤ B
  l0 : 0 ≤ st.left
  l1 : st.left < 2 ^ 64
  phi : Phi st.rows ≤ B
  ev : st.evts.length + 3 * Phi st.rows ≤ 4 * B + 3
  ev2 : 0 < st.left → st.evts.length + 3 * Phi st.rows ≤ 3 * B
theorem next_A {B : Nat} {c : Com} {rule : Str} {st : MSt} (h : AOk B st) (hne : metM st.rows (agM c.side) rule ≠ []) (hl : 0 < st.left) (hg : GuardOk c.guard) : AOk B (nextM c rule st) ∧ muM (nextM c rule st) < muM st := by
  have okm : ∀ r ∈ metM st.rows (agM c.side) rule, RowOk r := fun r hr => h.rows r (met_mem hr)
  have hs := step_A (rank := st.rank) okm hne hl hg
  have e2 := h.ev2 hl
  have e3 : muM st = Phi st.rows + 1 := by unfold muM; rw [if_pos hl]
  have hPm : Phi (metM st.rows (agM c.side) rule) ≤ Phi st.rows := by
    obtain ⟨q, L, h1, h2⟩ := met_sub (rows := st.rows) (s := agM c.side) (rule := rule)
    have := Phi_sub h1
    rw [Phi_permA h2] at this
    have := Phi_filter q st.rows
    omega
  rw [e3]
  rw [show nextM c rule st = ⟨outM st.rows (stepM (metM st.rows (agM c.side) rule) c st.left st.rank).out ++ (stepM (metM st.rows (agM c.side) rule) c st.left st.rank).back, st.evts ++ (stepM (metM st.rows (agM c.side) rule) c st.left st.rank).told, (stepM (metM st.rows (agM c.side) rule) c st.left st.rank).left, (stepM (metM st.rows (agM c.side) rule) c st.left st.rank).rank⟩ from rfl]
  generalize stepM (metM st.rows (agM c.side) rule) c st.left st.rank = r at hs
  obtain ⟨l0, l1, sub, back, blen, pot0, pot, pote⟩ := hs
  obtain ⟨hP, hL⟩ := out_A sub h.rows
  have hPhi := h.phi
  have hlen := h.len
  have hl1 := h.l1
  have eP : Phi (outM st.rows r.out ++ r.back) = Phi (outM st.rows r.out) + Phi r.back := Phi_app _ _
  refine ⟨⟨fun x hx => ?_, ?_, l0, by show r.left < 2 ^ 64; omega, ?_, ?_, fun q => ?_⟩, ?_⟩
  · rcases List.mem_append.mp hx with z | z
    · exact h.rows x (List.mem_filter.mp z).1
    · exact back x z
  · show (outM st.rows r.out ++ r.back).length ≤ B
    rw [List.length_append]
    omega
  · show Phi (outM st.rows r.out ++ r.back) ≤ B
    rw [eP]
    omega
  · show (st.evts ++ r.told).length + 3 * Phi (outM st.rows r.out ++ r.back) ≤ 4 * B + 3
    rw [List.length_append, eP]
    omega
  · have q : 0 < r.left := q
    have := pot q
    show (st.evts ++ r.told).length + 3 * Phi (outM st.rows r.out ++ r.back) ≤ 3 * B
    rw [List.length_append, eP]
    omega
  · unfold muM
    show (if 0 < r.left then Phi (outM st.rows r.out ++ r.back) + 1 else 0) < Phi st.rows + 1
    rw [eP]
    split
    · rename_i q
      have := pot q
      omega
    · omega

end
section
variable [Fam] [Tabz] {P : Program} {w : World} {K : PySem.W.Frag} {mg : Str → Option Value} {base : Heap}
local macro_rules | `(tactic| walk_at "d") => `(tactic| first | refine Or.inl ⟨_, rfl, ?_⟩ | refine ⟨Nat.le_of_ble_eq_true rfl, ?_⟩ | refine ⟨⟨_, rfl⟩, ?_⟩ | refine ⟨_, rfl, ?_⟩ | refine ⟨_, _, rfl, ?_⟩ | refine ⟨_, _, _, rfl, ?_⟩ | refine ⟨_, _, _, _, rfl, ?_⟩)
/-! ### plain_meet, by either rule -/
def mMeetA : DM := fun rs n Q => ∃ (rows : List Row) (c : Com) (rank : Int) (band : Option Int) (anchorD : PyData) (a : Int) (rule : Str) (B : Nat), rs = [.d (dRows rows), .d c.dat, .d (.int rank), .d (datP band), .d anchorD, .d (.str rule)] ∧
  (band.isSome = true → anchorD = .int a) ∧ GuardOk c.guard ∧ B ≤ 1000 ∧ AOk B ⟨rows, [], c.left, rank⟩ ∧ ∀ k fin, meetF c band a rule k ⟨rows, [], c.left, rank⟩ = some fin → Q (.d (meetRes fin)) n
theorem L_plain_meetA : ∀ rs n Q, mMeetA rs n Q → plainR rs ∧ rs.length = 6 := by
  rintro rs n Q ⟨rows, c, rank, band, x, a, rule, B, rfl, h⟩
  exact plainOf_R (ds := [_, _, _, _, _, _]) rfl
theorem ix_first (d : PyData) (ds : List PyData) : opIxL (.list (d :: ds)) (.int 0) = some (.d d) := by
  show ((atI (d :: ds) 0).map DV.d) = some (.d d)
  rw [show atI (d :: ds) 0 = some d from atI_nat (j := 0) rfl]
  rfl
theorem ok_meetA {f : Addr} {fd : FuncData} (F : Fun K "plain_meet" "plain_meet" s_plain_meet f fd) (T : Txt mg) (c_rows_met : Cal P w K mg base 2 "rows_met" ["rows", "side", "rule"] (spD mMet)) (c_against : Cal P w K mg base 1 "against" ["side"] (spD mAg)) (c_lets : Cal P w K mg base 1 "lets" ["price", "side", "other"] (spD mLets))
    (c_too_far : Cal P w K mg base 1 "too_far" ["price", "band", "anchor"] (spD mFar)) (c_step : Cal P w K mg base 4 "step" ["met", "coming", "left", "rank"] (spD mStep)) (c_ranked : Cal P w K mg base 2 "ranked" ["rows"] (spD mRanked)) : FnOk P w K mg base CX0 5 f fd ["rows", "coming", "rank", "band", "anchor", "rule"] (spD mMeetA) := by
  apply okD F sc_plain_meet L_plain_meetA
  case body =>
    intro cdv A outer s H E hr
    obtain ⟨f_against, fd_against, G_against, m_against, k_against, b_against⟩ := c_against
    obtain ⟨f_lets, fd_lets, G_lets, m_lets, k_lets, b_lets⟩ := c_lets
    obtain ⟨f_ranked, fd_ranked, G_ranked, m_ranked, k_ranked, b_ranked⟩ := c_ranked
    obtain ⟨f_rows_met, fd_rows_met, G_rows_met, m_rows_met, k_rows_met, b_rows_met⟩ := c_rows_met
    obtain ⟨f_step, fd_step, G_step, m_step, k_step, b_step⟩ := c_step
    obtain ⟨f_too_far, fd_too_far, G_too_far, m_too_far, k_too_far, b_too_far⟩ := c_too_far
    exact (psCons (psPar3 (ps_par3 (i := 6) (j := 7) (l := 8) (by rfl) sc_plain_meet.nd rfl rfl rfl (by decide) (by decide) (by decide) rfl rfl rfl (paCons (pdIx r2IxT ix_tup (pdV (pv 1)) (pdC pe_int) (fun _ _ => rfl)) (paCons (pdIx r2IxT ix_tup (pdV (pv 1)) (pdC pe_int) (fun _ _ => rfl)) (paCons (pdIx r2IxT ix_tup (pdV (pv 1)) (pdC pe_int) (fun _ _ => rfl)) paNil))) (by rfl)))
          (psCons (psSet (i := 9) sc_plain_meet.nd rfl (Or.inl rfl) (pdLst paNil))
          (psCons (psSet (i := 10) sc_plain_meet.nd rfl (Or.inl rfl) (pdC pe_bl))
          (psCons (psWhile PassesOwn.never (PW.pt (pwAnd (ptCmp r2Gt op_gt (pdV (pv 8)) (pdC pe_int) (nomark _)) (pwAnd1 (ptNot (ptVal (pdV (pv 10)))))))
           (psCons (psSet (i := 11) sc_plain_meet.nd rfl (Or.inl rfl) (pdCall (fun _ _ _ q => (L_rows_met _ _ _ q).1) G_rows_met (hr.mono (by decide)) (by rfl) m_rows_met k_rows_met b_rows_met pass0 (paCons (pdV (pv 0)) (paCons (pdCall (fun _ _ _ q => (L_against _ _ _ q).1) G_against (hr.mono (by decide)) (by rfl) m_against k_against b_against pass0 (paCons (pdV (pv 6)) paNil)) (paCons (pdV (pv 5)) paNil)))))
            (psCons (psIf (PW.pt (pwOr (ptNot (ptTru (pdV (pv 11)) (by intro _; rfl))) (pwOr1 (ptNot (ptVal (pdCall (fun _ _ _ q => (L_lets _ _ _ q).1) G_lets (hr.mono (by decide)) (by rfl) m_lets k_lets b_lets pass0 (paCons (pdV (pv 7)) (paCons (pdV (pv 6)) (paCons (pdIx r2IxT ix_tup (pdIx r2IxL ix_list (pdV (pv 11)) (pdC pe_int) (fun _ _ => rfl)) (pdC pe_int) (fun _ _ => rfl)) paNil))))))))) (psOne psBrk) psNil)
            (psCons (psSet (i := 10) sc_plain_meet.nd rfl (Or.inl rfl) (pdCall (fun _ _ _ q => (L_too_far _ _ _ q).1) G_too_far (hr.mono (by decide)) (by rfl) m_too_far k_too_far b_too_far pass0 (paCons (pdIx r2IxT ix_tup (pdIx r2IxL ix_list (pdV (pv 11)) (pdC pe_int) (fun _ _ => rfl)) (pdC pe_int) (fun _ _ => rfl)) (paCons (pdV (pv 3)) (paCons (pdV (pv 4)) paNil)))))
            (psOne (psIf (ptNot (ptVal (pdV (pv 10)))) (psCons (psAsg (pdCall (fun _ _ _ q => (L_step _ _ _ q).1) G_step (hr.mono (by decide)) (by rfl) m_step k_step b_step pass0 (paCons (pdV (pv 11)) (paCons (pdV (pv 1)) (paCons (pdV (pv 8)) (paCons (pdV (pv 2)) paNil))))) (pgTup (n := 5) rfl (pgCons (pgN (pg_name (i := 12) sc_plain_meet.nd rfl (Or.inl rfl))) (pgCons (pgN (pg_name (i := 13) sc_plain_meet.nd rfl (Or.inr rfl))) (pgCons (pgN (pg_name (i := 14) sc_plain_meet.nd rfl (Or.inl rfl))) (pgCons (pgN (pg_name (i := 8) sc_plain_meet.nd rfl (Or.inl rfl))) (pgCons (pgN (pg_name (i := 2) sc_plain_meet.nd rfl (Or.inl rfl))) pgNil)))))))
              (psCons (psSet (i := 0) sc_plain_meet.nd rfl (Or.inl rfl) (pdCold (pdOp r2Cat op_cat ((pe_lc (own := [("row", 15)]) rfl sc_plain_meet.nd (piList (pdV (pv 0))) (blkOk_by (N := ["rows", "coming", "rank", "band", "anchor", "rule", "side", "price", "left", "events", "halted", "met", "told", "out", "back", "row"]) (sc := defScope s_plain_meet) (by decide +kernel)) (fun _ _ _ _ _ => (pgN (pg_name (i := 15) sc_plain_meet.nd rfl (Or.inl rfl)))) (fun _ _ _ _ _ => (pts_one (ptCmp r2NotIn (op_notInD hr.units65) (pdV (pv 15)) (pdV (pv 13)) (by rfl)))) (fun _ _ _ _ _ => (pdV (pv 15)))).imp (lc_le (by decide) (fun _ _ _ q => q))) (pdV (pv 14)))))
              (psOne (psExt (by rfl) (pe_bm PySem.F.plainAttrs_list PySem.F.slot_list_extend PySem.F.type_list_extend mt_extend (pv 9) (pa_cons (pdV (pv 12)) pa_nil)))))) psNil))))))
          (psFrz 9 (psOne (psRet (pdTup (paCons (pdV (pv 9)) (paCons (pdCall (fun _ _ _ q => (L_ranked _ _ _ q).1) G_ranked (hr.mono (by decide)) (by rfl) m_ranked k_ranked b_ranked pass0 (paCons (pdV (pv 0)) paNil)) (paCons (pdV (pv 8)) (paCons (pdV (pv 10)) (paCons (pdV (pv 2)) paNil)))))))))))))
  case data =>
    rintro rs n Q ⟨rows, c, rank, band, anchorD, a, rule, B, rfl, hA, hg, hB, ok, h⟩
    repeat walk_at "d"
    obtain ⟨W, eW⟩ : ∃ W : Nat → List DV → Int → Prop, W = fun k ρ m => m = n ∧ ∃ (st : MSt) (hl : Bool) (j11 j12 j13 j14 : DV), ρ = [.d (dRows st.rows), .d c.dat, .d (.int st.rank), .d (datP band), .d anchorD, .d (.str rule), .d (.str c.side), .d (datP c.price), .d (.int st.left), .own (st.evts.map Evt.dat), .d (.bool hl), j11, j12, j13, j14, .un] ∧ AOk B st ∧
      (hl = true → 0 < st.left ∧ ∃ k, meetF c band a rule k ⟨rows, [], c.left, rank⟩ = some (st, true)) ∧ (hl = false → ∀ k fin, meetF c band a rule k st = some fin → ∃ k', meetF c band a rule k' ⟨rows, [], c.left, rank⟩ = some fin) ∧ k = if hl = true then 0 else muM st := ⟨_, rfl⟩
    refine ⟨W, ⟨_, by rw [eW]; exact ⟨rfl, ⟨rows, [], c.left, rank⟩, false, _, _, _, _, rfl, ok, fun z => (by cases z), fun _ k fin e => ⟨k, e⟩, rfl⟩⟩, ?_⟩
    intro k ρ m hw
    rw [eW] at hw
    obtain ⟨rfl, st, hl, j11, j12, j13, j14, rfl, okS, h1, h2, rfl⟩ := hw
    repeat walk_at "d"
    refine ite2 (fun q => ?_) (fun q => ?_)
    · have q : 0 < st.left := of_decide_eq_true q
      cases hl with
      | true =>
        obtain ⟨_, k0, ek⟩ := h1 rfl
        repeat walk_at "d"
        refine ⟨Nat.le_trans okS.len (Nat.le_trans hB (by decide)), ?_⟩
        repeat walk_at "d"
        exact h _ _ ek
      | false =>
        have mu : muM st = Phi st.rows + 1 := by unfold muM; rw [if_pos q]
        repeat walk_at "d"
        refine ⟨fun ρ n => ∃ m', m' < muM st ∧ W m' ρ n, fun ρ n z => z, ?_⟩
        repeat walk_at "d"
        refine ⟨Nat.le_trans okS.len (Nat.le_trans hB (by decide)), ?_⟩
        have hstep : ∀ (m : Row) (tl : List Row), metM st.rows (agM c.side) rule = m :: tl → letsM c.price c.side m.price = true → farM m.price band a = false → ∀ k fin, meetF c band a rule k (nextM c rule st) = some fin → ∃ k', meetF c band a rule k' ⟨rows, [], c.left, rank⟩ = some fin := fun m tl e1 e2 e3 k fin e4 => h2 rfl (k + 1) fin (by
          show (if 0 < st.left then _ else _) = _
          rw [if_pos q, e1]
          show (if letsM c.price c.side m.price = true then _ else _) = _
          rw [if_pos e2, if_neg (by rw [e3]; decide)]
          exact e4)
        have hnext : metM st.rows (agM c.side) rule ≠ [] → AOk B (nextM c rule st) ∧ muM (nextM c rule st) < muM st := fun e => next_A okS e q hg
        have hs : metM st.rows (agM c.side) rule ≠ [] → StepA (metM st.rows (agM c.side) rule) st.left (stepM (metM st.rows (agM c.side) rule) c st.left st.rank) := fun e => step_A (fun r hr => okS.rows r (met_mem hr)) e q hg
        have hmm : ∀ x ∈ metM st.rows (agM c.side) rule, x ∈ st.rows := fun x hx => met_mem hx
        have hml : (metM st.rows (agM c.side) rule).length ≤ st.rows.length ∧ Phi (metM st.rows (agM c.side) rule) ≤ Phi st.rows := by
          obtain ⟨qq, L, g1, g2⟩ := met_sub (rows := st.rows) (s := agM c.side) (rule := rule)
          have g3 := g1.length_le
          rw [g2.length_eq] at g3
          have g4 := List.length_filter_le qq st.rows
          have g5 := Phi_sub g1
          rw [Phi_permA g2] at g5
          have g6 := Phi_filter qq st.rows
          exact ⟨by omega, by omega⟩
        have enx : nextM c rule st = ⟨outM st.rows (stepM (metM st.rows (agM c.side) rule) c st.left st.rank).out ++ (stepM (metM st.rows (agM c.side) rule) c st.left st.rank).back, st.evts ++ (stepM (metM st.rows (agM c.side) rule) c st.left st.rank).told, (stepM (metM st.rows (agM c.side) rule) c st.left st.rank).left, (stepM (metM st.rows (agM c.side) rule) c st.left st.rank).rank⟩ := rfl
        generalize hmet : metM st.rows (agM c.side) rule = ms at hstep hnext hs hmm hml enx ⊢
        cases ms with
        | nil =>
          obtain ⟨k0, ek⟩ := h2 rfl 1 (st, false) (by
            show (if 0 < st.left then _ else _) = _
            rw [if_pos q, hmet])
          repeat walk_at "d"
          refine ⟨Nat.le_trans okS.len (Nat.le_trans hB (by decide)), ?_⟩
          repeat walk_at "d"
          exact h _ _ ek
        | cons r tl =>
          have okr := okS.rows r (hmm r List.mem_cons_self)
          repeat walk_at "d"
          refine ⟨_, ix_first _ _, ?_⟩
          repeat walk_at "d"
          refine ite2 (fun q2 => ?_) (fun q2 => ?_)
          · have q2 : letsM c.price c.side r.price = false := by
              have : (!letsM c.price c.side r.price) = true := q2
              simpa using this
            obtain ⟨k0, ek⟩ := h2 rfl 1 (st, false) (by
              show (if 0 < st.left then _ else _) = _
              rw [if_pos q, hmet]
              show (if letsM c.price c.side r.price = true then _ else _) = _
              rw [if_neg (by rw [q2]; decide)])
            repeat walk_at "d"
            refine ⟨Nat.le_trans okS.len (Nat.le_trans hB (by decide)), ?_⟩
            repeat walk_at "d"
            exact h _ _ ek
          · have q2 : letsM c.price c.side r.price = true := by
              have : ¬ (!letsM c.price c.side r.price) = true := q2
              simpa using this
            repeat walk_at "d"
            refine ⟨_, ix_first _ _, ?_⟩
            repeat walk_at "d"
            refine ⟨r.price, band, anchorD, a, rfl, hA, ?_⟩
            repeat walk_at "d"
            refine ite2 (fun q3 => ?_) (fun q3 => ?_)
            · have q3 : farM r.price band a = false := by
                have : (!farM r.price band a) = true := q3
                simpa using this
              have hst := hs (by simp)
              obtain ⟨hn1, hn2⟩ := hnext (by simp)
              have hfin := hstep r tl rfl q2 q3
              repeat walk_at "d"
              refine ⟨hg, ⟨okS.l0, okS.l1⟩, fun x hx => ?_, (by have := okS.len; show (r :: tl).length ≤ 50000; omega), ?_⟩
              · have okx := okS.rows x (hmm x hx)
                exact ⟨by have := okx.1; omega, by have := okx.2.1; have := okx.2.2.1; omega⟩
              generalize stepM (r :: tl) c st.left st.rank = res at hst enx ⊢
              have hout : ∀ x ∈ res.out, RowOk x := fun x hx => okS.rows x (hmm x (hst.sub.subset hx))
              have hol2 := hst.sub.length_le
              have hPs := Phi_sub hst.sub
              have hbl : res.back.length ≤ 1000 := by
                have := hst.blen
                have := okS.len
                omega
              have hphi := okS.phi
              have hlen := okS.len
              have hev := okS.ev
              have htl : res.told.length ≤ 5 * B + 3 := by
                have := hst.pote
                omega
              repeat walk_at "d"
              refine lcFil (fun d => !(res.out.map Row.dat).any fun z => PyData.eqv z d) rfl (by rw [List.length_map]; omega) ?_ ?_
              · intro d hd
                obtain ⟨x, hx, rfl⟩ := dat_mem hd
                refine ⟨_, rfl, fun R k => ?_, fun R k => ?_⟩
                · repeat walk_at "d"
                  refine ⟨_, in_ok (Row.shaped (okS.rows x hx)) (rows_shaped hout), ?_⟩
                  repeat walk_at "d"
                  exact k
                · repeat walk_at "d"
                  exact k
              rw [filter_dat (fun x => !(res.out.any fun o => PyData.eqv o.dat x.dat)) _ (fun x => by rw [any_dat])]
              have hol : (outM st.rows res.out).length ≤ st.rows.length := out_len _ _
              repeat walk_at "d"
              refine ⟨_, opCat_ok (by rw [List.length_map, List.length_map]; show (outM st.rows res.out).length + _ ≤ _; omega), ?_⟩
              repeat walk_at "d"
              refine ⟨by rw [List.length_map, List.length_map]; omega, ?_⟩
              refine ⟨_, hn2, ?_⟩
              rw [eW]
              refine ⟨rfl, nextM c rule st, false, .d (dRows (r :: tl)), .d (dEvts res.told), .d (dRows res.out), .d (dRows res.back), ?_, hn1, fun z => (by cases z), fun _ => hfin, rfl⟩
              rw [enx]
              dsimp only
              unfold dRows outM
              rw [← q3, List.map_append, List.map_append]
              rfl
            · have q3 : farM r.price band a = true := by
                have : ¬ (!farM r.price band a) = true := q3
                simpa using this
              repeat walk_at "d"
              refine ⟨0, by rw [mu]; exact Nat.succ_pos _, ?_⟩
              rw [eW]
              exact ⟨rfl, st, true, _, _, _, _, by rw [← q3]; rfl, okS, fun _ => ⟨q, h2 rfl 1 (st, true) (by
                show (if 0 < st.left then _ else _) = _
                rw [if_pos q, hmet]
                show (if letsM c.price c.side r.price = true then _ else _) = _
                rw [if_pos q2, if_pos q3])⟩, fun z => (by cases z), rfl⟩
    · have q : ¬ 0 < st.left := fun z => q (decide_eq_true z)
      obtain ⟨k0, ek⟩ : ∃ k', meetF c band a rule k' ⟨rows, [], c.left, rank⟩ = some (st, hl) := by
        cases hl with
        | true => exact absurd (h1 rfl).1 q
        | false => exact h2 rfl 1 (st, false) (by show (if 0 < st.left then _ else _) = _; rw [if_neg q])
      repeat walk_at "d"
      refine ⟨Nat.le_trans okS.len (Nat.le_trans hB (by decide)), ?_⟩
      repeat walk_at "d"
      exact h _ _ ek

end
section
variable [Fam] [Tabz] {P : Program} {w : World} {K : PySem.W.Frag} {mg : Str → Option Value} {base : Heap}
/-! ### meetings by rank: rows in another order, events ahead -/
def UR (rows : List Row) (k : Int) : Prop := (∀ a ∈ rows, ∀ b ∈ rows, a.rank = b.rank → a = b) ∧ ∀ r ∈ rows, r.rank < k
theorem UR.perm {r r' : List Row} {k : Int} (h : UR r k) (p : r.Perm r') : UR r' k :=
  ⟨fun a ha b hb e => h.1 a (p.mem_iff.mpr ha) b (p.mem_iff.mpr hb) e, fun x hx => h.2 x (p.mem_iff.mpr hx)⟩
theorem sort_rank_eq {xs ys : List Row} (p : xs.Perm ys) (u : ∀ a ∈ xs, ∀ b ∈ xs, a.rank = b.rank → a = b) : xs.mergeSort leRank = ys.mergeSort leRank := by
  have tr : ∀ a b c : Row, leRank a b = true → leRank b c = true → leRank a c = true := fun a b c h1 h2 => by
    have h1 := of_decide_eq_true h1
    have h2 := of_decide_eq_true h2
    exact decide_eq_true (Int.le_trans h1 h2)
  have to : ∀ a b : Row, (leRank a b || leRank b a) = true := fun a b => by
    unfold leRank
    rw [Bool.or_eq_true, decide_eq_true_eq, decide_eq_true_eq]
    exact Int.le_total _ _
  refine List.Perm.eq_of_pairwise (le := fun a b => leRank a b = true) ?_ (List.pairwise_mergeSort tr to xs) (List.pairwise_mergeSort tr to ys) (((List.mergeSort_perm xs leRank).trans p).trans (List.mergeSort_perm ys leRank).symm)
  intro a b ha hb h1 h2
  have h1 := of_decide_eq_true h1
  have h2 := of_decide_eq_true h2
  exact u a (List.mem_mergeSort.mp ha) b (p.mem_iff.mpr (List.mem_mergeSort.mp hb)) (Int.le_antisymm h1 h2)
theorem sort_row_eq {neg : Bool} {xs ys : List Row} (p : xs.Perm ys) (u : ∀ a ∈ xs, ∀ b ∈ xs, a.rank = b.rank → a = b) : xs.mergeSort (leRow neg) = ys.mergeSort (leRow neg) := by
  have tr : ∀ a b c : Row, leRow neg a b = true → leRow neg b c = true → leRow neg a c = true := fun a b c h1 h2 => by
    have h1 := of_decide_eq_true h1
    have h2 := of_decide_eq_true h2
    refine decide_eq_true ?_
    omega
  have to : ∀ a b : Row, (leRow neg a b || leRow neg b a) = true := fun a b => by
    unfold leRow
    rw [Bool.or_eq_true, decide_eq_true_eq, decide_eq_true_eq]
    omega
  refine List.Perm.eq_of_pairwise (le := fun a b => leRow neg a b = true) ?_ (List.pairwise_mergeSort tr to xs) (List.pairwise_mergeSort tr to ys) (((List.mergeSort_perm xs (leRow neg)).trans p).trans (List.mergeSort_perm ys (leRow neg)).symm)
  intro a b ha hb h1 h2
  have h1 := of_decide_eq_true h1
  have h2 := of_decide_eq_true h2
  exact u a (List.mem_mergeSort.mp ha) b (p.mem_iff.mpr (List.mem_mergeSort.mp hb)) (by omega)
theorem maxI_perm {xs ys : List Int} (p : xs.Perm ys) : maxI xs = maxI ys := by
  cases xs with
  | nil => rw [List.nil_perm.mp p]
  | cons x xs =>
    cases ys with
    | nil => exact absurd p.length_eq (by simp)
    | cons y ys =>
      obtain ⟨a1, a2⟩ := foldl_max xs x
      obtain ⟨b1, b2⟩ := foldl_max ys y
      show some _ = some _
      rw [Int.le_antisymm (b2 _ (p.mem_iff.mp a1)) (a2 _ (p.mem_iff.mpr b1))]
theorem minI_perm {xs ys : List Int} (p : xs.Perm ys) : minI xs = minI ys := by
  cases xs with
  | nil => rw [List.nil_perm.mp p]
  | cons x xs =>
    cases ys with
    | nil => exact absurd p.length_eq (by simp)
    | cons y ys =>
      obtain ⟨a1, a2⟩ := foldl_min xs x
      obtain ⟨b1, b2⟩ := foldl_min ys y
      show some _ = some _
      rw [Int.le_antisymm (a2 _ (p.mem_iff.mpr b1)) (b2 _ (p.mem_iff.mp a1))]
theorem side_perm {rows rows' : List Row} (p : rows.Perm rows') (s : Str) : (sideM rows s).Perm (sideM rows' s) := p.filter _
theorem met_perm {rows rows' : List Row} {k : Int} (p : rows.Perm rows') (u : UR rows k) (s rule : Str) : metM rows s rule = metM rows' s rule := by
  have ps := side_perm p s
  have e1 : (sideM rows s).isEmpty = (sideM rows' s).isEmpty := by
    have := ps.length_eq
    cases h1 : sideM rows s <;> cases h2 : sideM rows' s <;> simp [h1, h2] at this ⊢
  have e2 : bestM s ((sideM rows s).map Row.price) = bestM s ((sideM rows' s).map Row.price) := by
    unfold bestM
    rw [maxI_perm (ps.map Row.price), minI_perm (ps.map Row.price)]
  have e3 : levelM rows s = levelM rows' s := by
    unfold levelM
    rw [e2]
    refine sort_rank_eq (ps.filter _) fun a ha b hb => u.1 a ?_ b ?_
    · exact (List.mem_filter.mp (List.mem_filter.mp ha).1).1
    · exact (List.mem_filter.mp (List.mem_filter.mp hb).1).1
  unfold metM
  rw [e1, e3]
theorem rank_perm {rows rows' : List Row} {k : Int} (p : rows.Perm rows') (u : UR rows k) : rankM rows = rankM rows' := by
  unfold rankM
  rw [sort_row_eq (side_perm p "buy") fun a ha b hb => u.1 a (List.mem_filter.mp ha).1 b (List.mem_filter.mp hb).1, sort_row_eq (side_perm p "sell") fun a ha b hb => u.1 a (List.mem_filter.mp ha).1 b (List.mem_filter.mp hb).1]
theorem rank_of_perm {rows : List Row} (h : ∀ r ∈ rows, r.side = "buy" ∨ r.side = "sell") : (rankM rows).Perm rows := by
  unfold rankM
  refine ((List.mergeSort_perm _ _).append (List.mergeSort_perm _ _)).trans ?_
  unfold sideM
  have e : rows.filter (fun r : Row => decide (r.side = ("sell" : Str))) = rows.filter fun r : Row => !decide (r.side = ("buy" : Str)) := by
    refine List.filter_congr fun r hr => ?_
    rcases h r hr with e | e <;> rw [e] <;> decide +kernel
  rw [e]
  exact List.filter_append_perm _ _
/-- what steps come to -/
def tradeR (m : Row) (c : Com) (a L k : Int) : Res := ⟨tradeE c (m, a) :: (anewM [seenM m a] k).1, [m], (anewM [seenM m a] k).2.1, L - a, (anewM [seenM m a] k).2.2⟩
def lessR (m : Row) (c : Com) (a L k : Int) : Res := ⟨.less m.num c.num a :: (anewM [hidM m a] k).1, [m], (anewM [hidM m a] k).2.1, L - a, (anewM [hidM m a] k).2.2⟩
def amtM (m : Row) (L : Int) : Int := if m.seen ≤ L then m.seen else L
theorem step_trade {m : Row} {c : Com} {L k : Int} (h : m.who ≠ c.who) (ok : RowOk m) (hl : 0 < L) : stepM [m] c L k = tradeR m c (amtM m L) L k := by
  unfold stepM
  rw [show [m].find? (fun r => decide (r.who = c.who)) = none by simp [h]]
  show tradesM [m] c L k = _
  have es : sharesM L (seenOf [m]) = [amtM m L] := share_one (by have := ok.1; omega) (by omega)
  have a0 : 0 < amtM m L := by have := ok.1; unfold amtM; split <;> omega
  unfold tradesM tradesOf
  rw [es]
  have ez : (([m].zip [amtM m L]).filter fun p : Row × Int => decide (0 < p.2)) = [(m, amtM m L)] := by simp [a0]
  rw [ez]
  simp only [List.map_cons, List.map_nil, List.sum_cons, List.sum_nil, Int.add_zero]
  rfl
theorem step_own {m : Row} {c : Com} {L k : Int} (h : m.who = c.who) : stepM [m] c L k = ownM m c L k := by
  unfold stepM
  rw [show [m].find? (fun r => decide (r.who = c.who)) = some m by simp [h]]
theorem ownE_less {m : Row} {c : Com} {L k : Int} (h : c.guard = "less") : ownM m c L k = lessR m c (minM L m.left) L k := by
  unfold ownM
  rw [if_pos h]
  rfl
theorem ownE_old {m : Row} {c : Com} {L k : Int} (h : c.guard = "old") : ownM m c L k = ⟨[.off m.num m.left], [m], [], L, k⟩ := by
  unfold ownM
  rw [if_neg (by rw [h]; decide +kernel), if_pos h]
theorem ownE_new {m : Row} {c : Com} {L k : Int} (h : c.guard = "new") : ownM m c L k = ⟨[.off c.num L], [], [], 0, k⟩ := by
  unfold ownM
  rw [if_neg (by rw [h]; decide +kernel), if_neg (by rw [h]; decide +kernel), if_neg (by rw [h]; decide +kernel), if_pos h]
theorem ownE_both {m : Row} {c : Com} {L k : Int} (h : c.guard = "both") : ownM m c L k = ⟨[.off m.num m.left, .off c.num L], [m], [], 0, k⟩ := by
  unfold ownM
  rw [if_neg (by rw [h]; decide +kernel), if_neg (by rw [h]; decide +kernel), if_pos h]
/-- ranks of what comes back -/
theorem anew_ranks (r : Row) (k : Int) : ((anewM [r] k).2.1 = [] ∧ (anewM [r] k).2.2 = k) ∨ ((anewM [r] k).2.1 = [r] ∧ (anewM [r] k).2.2 = k) ∨ ∃ b, (anewM [r] k).2.1 = [b] ∧ b.rank = k ∧ (anewM [r] k).2.2 = k + 1 := by
  rw [anew_one]
  split
  · exact .inr (.inl ⟨rfl, rfl⟩)
  · split
    · exact .inr (.inr ⟨_, rfl, rfl, rfl⟩)
    · exact .inl ⟨rfl, rfl⟩
theorem step_ranks {m : Row} {c : Com} {L k : Int} (ok : RowOk m) (hl : 0 < L) (hg : GuardOk c.guard) : ((stepM [m] c L k).back = [] ∧ (stepM [m] c L k).rank = k) ∨ ((stepM [m] c L k).out = [m] ∧ ∃ b, (stepM [m] c L k).back = [b] ∧ ((b.rank = m.rank ∧ (stepM [m] c L k).rank = k) ∨ (b.rank = k ∧ (stepM [m] c L k).rank = k + 1))) := by
  have aux : ∀ (r : Row) (t : Evt) (l : Int), r.rank = m.rank → (((⟨t :: (anewM [r] k).1, [m], (anewM [r] k).2.1, l, (anewM [r] k).2.2⟩ : Res).back = [] ∧ (⟨t :: (anewM [r] k).1, [m], (anewM [r] k).2.1, l, (anewM [r] k).2.2⟩ : Res).rank = k) ∨ ((⟨t :: (anewM [r] k).1, [m], (anewM [r] k).2.1, l, (anewM [r] k).2.2⟩ : Res).out = [m] ∧ ∃ b, (⟨t :: (anewM [r] k).1, [m], (anewM [r] k).2.1, l, (anewM [r] k).2.2⟩ : Res).back = [b] ∧ ((b.rank = m.rank ∧ (⟨t :: (anewM [r] k).1, [m], (anewM [r] k).2.1, l, (anewM [r] k).2.2⟩ : Res).rank = k) ∨ (b.rank = k ∧ (⟨t :: (anewM [r] k).1, [m], (anewM [r] k).2.1, l, (anewM [r] k).2.2⟩ : Res).rank = k + 1)))) := by
    intro r t l e
    rcases anew_ranks r k with ⟨h1, h2⟩ | ⟨h1, h2⟩ | ⟨b, h1, h2, h3⟩
    · exact .inl ⟨h1, h2⟩
    · exact .inr ⟨rfl, r, h1, .inl ⟨e, h2⟩⟩
    · exact .inr ⟨rfl, b, h1, .inr ⟨h2, h3⟩⟩
  by_cases h : m.who = c.who
  · rw [step_own h]
    rcases hg with g | g | g | g
    · rw [ownE_old g]; exact .inl ⟨rfl, rfl⟩
    · rw [ownE_new g]; exact .inl ⟨rfl, rfl⟩
    · rw [ownE_both g]; exact .inl ⟨rfl, rfl⟩
    · rw [ownE_less g]
      exact aux (hidM m (minM L m.left)) _ _ rfl
  · rw [step_trade h ok hl]
    exact aux (seenM m (amtM m L)) _ _ rfl
theorem out_one {rows : List Row} {m x : Row} (ok : RowOk m) : x ∈ outM rows [m] ↔ x ∈ rows ∧ x ≠ m := by
  unfold outM
  rw [List.mem_filter]
  refine and_congr_right fun _ => ?_
  have e : ([m].any fun o => PyData.eqv o.dat x.dat) = PyData.eqv m.dat x.dat := by simp
  rw [e]
  have h := eqv_row m x
  constructor
  · intro h1 h2
    subst h2
    rw [h.mpr rfl] at h1
    cases h1
  · intro h1
    cases q : PyData.eqv m.dat x.dat with
    | false => rfl
    | true => exact absurd (h.mp q).symm h1
theorem out_none (rows : List Row) : outM rows [] = rows := by
  unfold outM
  simp
theorem next_UR {c : Com} {st : MSt} {m : Row} {tl : List Row} (hmet : metM st.rows (agM c.side) "rank" = m :: tl) (u : UR st.rows st.rank) (ok : ∀ r ∈ st.rows, RowOk r) (hl : 0 < st.left) (hg : GuardOk c.guard) : UR (nextM c "rank" st).rows (nextM c "rank" st).rank := by
  obtain ⟨z, hm⟩ := met_one hmet
  subst z
  have okm := ok m hm
  have sr := step_ranks (k := st.rank) okm hl hg
  show UR (outM st.rows (stepM (metM st.rows (agM c.side) "rank") c st.left st.rank).out ++ (stepM (metM st.rows (agM c.side) "rank") c st.left st.rank).back) (stepM (metM st.rows (agM c.side) "rank") c st.left st.rank).rank
  rw [hmet]
  generalize stepM [m] c st.left st.rank = r at sr
  have sub : ∀ x, x ∈ outM st.rows r.out → x ∈ st.rows := fun x hx => (List.mem_filter.mp hx).1
  rcases sr with ⟨e1, e2⟩ | ⟨e0, b, e1, e2⟩
  · rw [e1, e2, List.append_nil]
    exact ⟨fun a ha b hb => u.1 a (sub a ha) b (sub b hb), fun x hx => u.2 x (sub x hx)⟩
  · rw [e0, e1]
    have no : ∀ x ∈ outM st.rows [m], x.rank ≠ b.rank := fun x hx e => by
      obtain ⟨h1, h2⟩ := (out_one okm).mp hx
      rcases e2 with ⟨e3, _⟩ | ⟨e3, _⟩
      · exact h2 (u.1 x h1 m hm (e.trans e3))
      · have := u.2 x h1
        omega
    refine ⟨fun x hx y hy e => ?_, fun x hx => ?_⟩
    · rcases List.mem_append.mp hx with hx | hx <;> rcases List.mem_append.mp hy with hy | hy
      · exact u.1 x ((out_one okm).mp hx).1 y ((out_one okm).mp hy).1 e
      · rw [List.mem_singleton.mp hy] at e
        exact absurd e (no x hx)
      · rw [List.mem_singleton.mp hx] at e
        exact absurd e.symm (no y hy)
      · rw [List.mem_singleton.mp hx, List.mem_singleton.mp hy]
    · rcases List.mem_append.mp hx with hx | hx
      · have := u.2 x ((out_one okm).mp hx).1
        rcases e2 with ⟨_, e4⟩ | ⟨_, e4⟩ <;> omega
      · rw [List.mem_singleton.mp hx]
        rcases e2 with ⟨e3, e4⟩ | ⟨e3, e4⟩
        · have := u.2 m hm
          omega
        · omega
theorem meet_perm {B : Nat} {c : Com} {band : Option Int} {a : Int} (hg : GuardOk c.guard) : ∀ {k : Nat} {st : MSt} {rows' : List Row} {fin : MSt × Bool}, MOk B st → UR st.rows st.rank → st.rows.Perm rows' → meetF c band a "rank" k st = some fin →
    ∃ rows'', fin.1.rows.Perm rows'' ∧ meetF c band a "rank" k { st with rows := rows' } = some ({ fin.1 with rows := rows'' }, fin.2)
  | 0, _, _, _, _, _, _, h => by cases h
  | k + 1, st, rows', fin, ok, u, p, h => by
    unfold meetF at h ⊢
    have e := met_perm p u (agM c.side) "rank"
    by_cases q : 0 < st.left
    · rw [if_pos q] at h
      rw [if_pos (show 0 < ({ st with rows := rows' } : MSt).left from q)]
      rw [show metM ({ st with rows := rows' } : MSt).rows (agM c.side) "rank" = metM st.rows (agM c.side) "rank" from e.symm]
      cases hmet : metM st.rows (agM c.side) "rank" with
      | nil =>
        rw [hmet] at h
        cases h
        exact ⟨rows', p, rfl⟩
      | cons m tl =>
        rw [hmet] at h
        dsimp only at h ⊢
        split at h
        · rename_i q1
          rw [if_pos q1]
          split at h
          · rename_i q2
            rw [if_pos q2]
            cases h
            exact ⟨rows', p, rfl⟩
          · rename_i q2
            rw [if_neg q2]
            have p2 : (nextM c "rank" st).rows.Perm (nextM c "rank" { st with rows := rows' }).rows := by
              show (outM st.rows (stepM (metM st.rows (agM c.side) "rank") c st.left st.rank).out ++ (stepM (metM st.rows (agM c.side) "rank") c st.left st.rank).back).Perm (outM rows' (stepM (metM rows' (agM c.side) "rank") c st.left st.rank).out ++ (stepM (metM rows' (agM c.side) "rank") c st.left st.rank).back)
              rw [← e]
              exact (p.filter _).append_right _
            have e3 : nextM c "rank" { st with rows := rows' } = { nextM c "rank" st with rows := (nextM c "rank" { st with rows := rows' }).rows } := by
              unfold nextM
              rw [show ({ st with rows := rows' } : MSt).rows = rows' from rfl, ← e]
            rw [e3]
            exact meet_perm hg (next_ok ok hmet q hg).1 (next_UR hmet u ok.rows q hg) p2 h
        · rename_i q1
          rw [if_neg q1]
          cases h
          exact ⟨rows', p, rfl⟩
    · rw [if_neg q] at h
      rw [if_neg (show ¬ 0 < ({ st with rows := rows' } : MSt).left from q)]
      cases h
      exact ⟨rows', p, rfl⟩
/-- events ahead -/
def preE (ev : List Evt) (f : MSt × Bool) : MSt × Bool := ({ f.1 with evts := ev ++ f.1.evts }, f.2)
theorem meet_ev {c : Com} {band : Option Int} {a : Int} {rule : Str} : ∀ (k : Nat) (st : MSt), meetF c band a rule k st = (meetF c band a rule k { st with evts := [] }).map (preE st.evts)
  | 0, _ => rfl
  | k + 1, st => by
    have e0 : preE st.evts ({ st with evts := [] }, false) = (st, false) := by
      unfold preE
      simp
    have e1 : preE st.evts ({ st with evts := [] }, true) = (st, true) := by
      unfold preE
      simp
    unfold meetF
    show _ = Option.map _ (if 0 < st.left then match metM st.rows (agM c.side) rule with | [] => some ({ st with evts := [] }, false) | m :: _ => if letsM c.price c.side m.price = true then if farM m.price band a = true then some ({ st with evts := [] }, true) else meetF c band a rule k (nextM c rule { st with evts := [] }) else some ({ st with evts := [] }, false) else some ({ st with evts := [] }, false))
    by_cases q : 0 < st.left
    · rw [if_pos q, if_pos q]
      cases metM st.rows (agM c.side) rule with
      | nil => rw [Option.map_some, e0]
      | cons m tl =>
        dsimp only
        split
        · split
          · rw [Option.map_some, e1]
          · rw [meet_ev k (nextM c rule st), meet_ev k (nextM c rule { st with evts := [] })]
            have e2 : ({ nextM c rule { st with evts := [] } with evts := [] } : MSt) = { nextM c rule st with evts := [] } := rfl
            rw [e2, Option.map_map]
            congr 1
            funext f
            unfold preE
            show _ = (({ f.1 with evts := st.evts ++ (([] ++ _) ++ f.1.evts) } : MSt), f.2)
            rw [List.nil_append, ← List.append_assoc]
            rfl
        · rw [Option.map_some, e0]
    · rw [if_neg q, if_neg q, Option.map_some, e0]

end
section
variable [Fam] [Tabz] {P : Program} {w : World} {K : PySem.W.Frag} {mg : Str → Option Value} {base : Heap}
/-! ### the first row that is met -/
def betM (s : Str) (p q : Int) : Prop := if s = "buy" then q ≤ p else p ≤ q
theorem best_bet {s : Str} {ps : List Int} {q : Int} (hq : q ∈ ps) : betM s (bestM s ps) q := by
  cases ps with
  | nil => cases hq
  | cons i is =>
    unfold betM bestM
    by_cases e : s = "buy"
    · rw [if_pos e, if_pos e]
      exact (foldl_max is i).2 q hq
    · rw [if_neg e, if_neg e]
      exact (foldl_min is i).2 q hq
theorem best_mem {s : Str} {ps : List Int} (h : ps ≠ []) : bestM s ps ∈ ps := by
  cases ps with
  | nil => exact absurd rfl h
  | cons i is =>
    unfold bestM
    by_cases e : s = "buy"
    · rw [if_pos e]
      exact (foldl_max is i).1
    · rw [if_neg e]
      exact (foldl_min is i).1
theorem bet_antisymm {s : Str} {p q : Int} (h1 : betM s p q) (h2 : betM s q p) : p = q := by
  unfold betM at h1 h2
  split at h1 <;> rename_i e
  · rw [if_pos e] at h2
    omega
  · rw [if_neg e] at h2
    omega
theorem level_pw (rows : List Row) (s : Str) : (levelM rows s).Pairwise fun a b => leRank a b = true := by
  refine List.pairwise_mergeSort (le := leRank) (fun a b c h1 h2 => ?_) (fun a b => ?_) _
  · have h1 := of_decide_eq_true h1
    have h2 := of_decide_eq_true h2
    exact decide_eq_true (Int.le_trans h1 h2)
  · unfold leRank
    rw [Bool.or_eq_true, decide_eq_true_eq, decide_eq_true_eq]
    exact Int.le_total _ _
structure FirstM (rows : List Row) (s : Str) (m : Row) : Prop where
  mem : m ∈ rows
  side : m.side = s
  best : ∀ r ∈ rows, r.side = s → betM s m.price r.price
  rank : ∀ r ∈ rows, r.side = s → r.price = m.price → m.rank ≤ r.rank
theorem first_of {rows : List Row} {s : Str} {m : Row} {tl : List Row} (h : metM rows s "rank" = m :: tl) : FirstM rows s m := by
  unfold metM at h
  split at h
  · cases h
  · rw [if_neg (by decide +kernel)] at h
    have hh : (levelM rows s).take 1 = m :: tl := h
    cases hl : levelM rows s with
    | nil => rw [hl] at hh; cases hh
    | cons x xs =>
      rw [hl] at hh
      have e : x = m := by injection hh
      subst e
      have pw := level_pw rows s
      rw [hl] at pw
      have hx : x ∈ levelM rows s := by rw [hl]; exact List.mem_cons_self
      have hx2 := List.mem_filter.mp (List.mem_mergeSort.mp hx)
      have hp : x.price = bestM s ((sideM rows s).map Row.price) := of_decide_eq_true hx2.2
      have hs := List.mem_filter.mp hx2.1
      refine ⟨hs.1, of_decide_eq_true hs.2, fun r hr hrs => ?_, fun r hr hrs hrp => ?_⟩
      · rw [hp]
        exact best_bet (List.mem_map.mpr ⟨r, List.mem_filter.mpr ⟨hr, decide_eq_true hrs⟩, rfl⟩)
      · have hr2 : r ∈ levelM rows s := List.mem_mergeSort.mpr (List.mem_filter.mpr ⟨List.mem_filter.mpr ⟨hr, decide_eq_true hrs⟩, decide_eq_true (hrp.trans hp)⟩)
        rw [hl] at hr2
        rcases List.mem_cons.mp hr2 with e | e
        · rw [e]; exact Int.le_refl _
        · exact of_decide_eq_true (List.rel_of_pairwise_cons pw e)
theorem first_to {rows : List Row} {k : Int} {s : Str} {m : Row} (u : UR rows k) (f : FirstM rows s m) : metM rows s "rank" = [m] := by
  have ms : m ∈ sideM rows s := List.mem_filter.mpr ⟨f.mem, decide_eq_true f.side⟩
  have ne : (sideM rows s).isEmpty = false := by
    cases h : sideM rows s with
    | nil => rw [h] at ms; cases ms
    | cons _ _ => rfl
  have hb : bestM s ((sideM rows s).map Row.price) = m.price := by
    have hne : (sideM rows s).map Row.price ≠ [] := by
      intro h
      have := List.map_eq_nil_iff.mp h
      rw [this] at ms
      cases ms
    obtain ⟨r, hr, er⟩ := List.mem_map.mp (best_mem (s := s) hne)
    have hr2 := List.mem_filter.mp hr
    have b1 := f.best r hr2.1 (of_decide_eq_true hr2.2)
    have b2 := best_bet (s := s) (ps := (sideM rows s).map Row.price) (q := m.price) (List.mem_map.mpr ⟨m, ms, rfl⟩)
    rw [er] at b1
    exact bet_antisymm b2 b1
  have ml : m ∈ levelM rows s := List.mem_mergeSort.mpr (List.mem_filter.mpr ⟨ms, decide_eq_true hb.symm⟩)
  have pw := level_pw rows s
  unfold metM
  rw [ne, if_neg (by decide), if_neg (by decide +kernel)]
  cases hl : levelM rows s with
  | nil => rw [hl] at ml; cases ml
  | cons x xs =>
    rw [hl] at ml pw
    have hx : x ∈ levelM rows s := by rw [hl]; exact List.mem_cons_self
    have hx2 := List.mem_filter.mp (List.mem_mergeSort.mp hx)
    have hp : x.price = m.price := (of_decide_eq_true hx2.2 : x.price = _).trans hb
    have hs := List.mem_filter.mp hx2.1
    have e : x = m := by
      refine u.1 x hs.1 m f.mem (Int.le_antisymm ?_ (f.rank x hs.1 (of_decide_eq_true hs.2) hp))
      rcases List.mem_cons.mp ml with e | e
      · rw [e]; exact Int.le_refl _
      · exact of_decide_eq_true (List.rel_of_pairwise_cons pw e)
    rw [e]
    rfl
/-! ### events put together -/
def mergeE : Evt → Evt → Option Evt
  | .trade b s p a, .trade b' s' p' a' => if b = b' ∧ s = s' ∧ p = p' then some (.trade b' s' p' (a' + a)) else none
  | .less r c a, .less r' c' a' => if r = r' ∧ c = c' then some (.less r' c' (a' + a)) else none
  | .off m a, .off m' a' => if m = m' then some (.off m' (a' + a)) else none
  | _, _ => none
def joinS (f : List Evt) (e : Evt) : List Evt := match f.getLast? with
  | none => f ++ [e]
  | some l => match mergeE l e with
    | some x => f.dropLast ++ [x]
    | none => f ++ [e]
theorem merge_assoc {l x y w z : Evt} (h1 : mergeE l x = some w) (h2 : mergeE x y = some z) : ∃ w', mergeE w y = some w' ∧ mergeE l z = some w' := by
  cases l <;> cases x <;> simp only [mergeE, reduceCtorEq] at h1 <;> cases y <;> simp only [mergeE, reduceCtorEq] at h2
  all_goals
    split at h1 <;> cases h1
    split at h2 <;> cases h2
    rename_i e1 e2
    simp only [mergeE]
  · obtain ⟨a1, a2, a3⟩ := e1
    obtain ⟨b1, b2, b3⟩ := e2
    subst a1 a2 a3 b1 b2 b3
    simp [Int.add_assoc]
  · subst e1 e2
    simp [Int.add_assoc]
  · obtain ⟨a1, a2⟩ := e1
    obtain ⟨b1, b2⟩ := e2
    subst a1 a2 b1 b2
    simp [Int.add_assoc]
theorem merge_none {l x y z : Evt} (h1 : mergeE l x = none) (h2 : mergeE x y = some z) : mergeE l z = none := by
  cases x <;> cases y <;> simp only [mergeE, reduceCtorEq] at h2
  all_goals
    split at h2 <;> cases h2
    rename_i e2
    cases l <;> simp only [mergeE, ite_eq_right_iff, reduceCtorEq, imp_false] at h1 ⊢
  · obtain ⟨b1, b2, b3⟩ := e2
    subst b1 b2 b3
    exact h1
  · subst e2
    exact h1
  · obtain ⟨b1, b2⟩ := e2
    subst b1 b2
    exact h1
theorem join2 {x y z : Evt} (h : mergeE x y = some z) (f : List Evt) : joinS (joinS f x) y = joinS f z := by
  have last : ∀ (g : List Evt) (e : Evt), (g ++ [e]).getLast? = some e := fun g e => by simp
  have drop : ∀ (g : List Evt) (e : Evt), (g ++ [e]).dropLast = g := fun g e => by simp
  cases hl : f.getLast? with
  | none =>
    have e1 : joinS f x = f ++ [x] := by unfold joinS; rw [hl]
    have e2 : joinS f z = f ++ [z] := by unfold joinS; rw [hl]
    rw [e1, e2]
    unfold joinS
    rw [last]
    dsimp only
    rw [h]
    dsimp only
    rw [drop]
  | some l =>
    cases hm : mergeE l x with
    | none =>
      have e1 : joinS f x = f ++ [x] := by unfold joinS; rw [hl]; dsimp only; rw [hm]
      have e2 : joinS f z = f ++ [z] := by unfold joinS; rw [hl]; dsimp only; rw [merge_none hm h]
      rw [e1, e2]
      unfold joinS
      rw [last]
      dsimp only
      rw [h]
      dsimp only
      rw [drop]
    | some w =>
      obtain ⟨w', h1, h2⟩ := merge_assoc hm h
      have e1 : joinS f x = f.dropLast ++ [w] := by unfold joinS; rw [hl]; dsimp only; rw [hm]
      have e2 : joinS f z = f.dropLast ++ [w'] := by unfold joinS; rw [hl]; dsimp only; rw [h2]
      rw [e1, e2]
      unfold joinS
      rw [last]
      dsimp only
      rw [h1]
      dsimp only
      rw [drop]
/-! ### in pieces -/
structure RowsOk (B : Nat) (rs : List Row) : Prop where
  rows : ∀ r ∈ rs, RowOk r
  len : rs.length ≤ B
  phi : Phi rs ≤ B
theorem Phi_perm {a b : List Row} (p : a.Perm b) : Phi a = Phi b := by
  unfold Phi
  induction p with
  | nil => rfl
  | cons x _ ih => simp only [List.map_cons, List.sum_cons, ih]
  | swap x y l => simp only [List.map_cons, List.sum_cons]; omega
  | trans _ _ h1 h2 => exact h1.trans h2
theorem RowsOk.perm {B : Nat} {a b : List Row} (h : RowsOk B a) (p : a.Perm b) : RowsOk B b := ⟨fun r hr => h.rows r (p.mem_iff.mpr hr), by rw [← p.length_eq]; exact h.len, by rw [← Phi_perm p]; exact h.phi⟩
theorem RowsOk.m {B : Nat} {rows : List Row} (h : RowsOk B rows) {l k : Int} (l0 : 0 ≤ l) (l1 : l < 2 ^ 64) : MOk B ⟨rows, [], l, k⟩ :=
  ⟨h.rows, h.len, l0, l1, h.phi, by have := h.phi; show 0 + 3 * Phi rows ≤ 3 * B + 3; omega, fun _ => by have := h.phi; show 0 + 3 * Phi rows ≤ 3 * B; omega⟩
theorem MOk.r {B : Nat} {st : MSt} (h : MOk B st) : RowsOk B st.rows := ⟨h.rows, h.len, h.phi⟩
/-- what the pieces' run comes to, for the whole one -/
def Joined (c : Com) (band : Option Int) (a0 : Int) (rows : List Row) (L k : Int) (lA : Int) (evs : List Evt) (fB : MSt) (hB : Bool) : Prop := ∃ (kW : Nat) (fW : MSt), meetF c band a0 "rank" kW ⟨rows, [], L, k⟩ = some (fW, hB) ∧ fW.rows.Perm fB.rows ∧ fW.left = lA + fB.left ∧ fW.rank = fB.rank ∧ ∀ f, fW.evts.foldl joinS f = evs.foldl joinS f
theorem meet_go {c : Com} {band : Option Int} {a0 : Int} {st : MSt} {m : Row} {tl : List Row} {k : Nat} (q : 0 < st.left) (hmet : metM st.rows (agM c.side) "rank" = m :: tl) (q1 : letsM c.price c.side m.price = true) (q2 : farM m.price band a0 = false) : meetF c band a0 "rank" (k + 1) st = meetF c band a0 "rank" k (nextM c "rank" st) := by
  show (if 0 < st.left then _ else _) = _
  rw [if_pos q, hmet]
  show (if letsM c.price c.side m.price = true then _ else _) = _
  rw [if_pos q1, if_neg (by rw [q2]; decide)]
theorem meet_end {c : Com} {band : Option Int} {a0 : Int} {st : MSt} {k : Nat} {f : MSt × Bool} (q : ¬ 0 < st.left) (h : meetF c band a0 "rank" k st = some f) : f = (st, false) := by
  cases k with
  | zero => cases h
  | succ k =>
    unfold meetF at h
    rw [if_neg q] at h
    cases h
    rfl
theorem out_back {rows : List Row} {m m' : Row} {k : Int} (okm : RowOk m) (okm' : RowOk m') (u : UR rows k) (hm : m ∈ rows) (hr : m'.rank = m.rank) {rows' : List Row} (p : (outM rows [m] ++ [m']).Perm rows') : (outM rows [m]).Perm (outM rows' [m']) := by
  have p2 : (outM (outM rows [m] ++ [m']) [m']).Perm (outM rows' [m']) := p.filter _
  refine List.Perm.trans ?_ p2
  have e : outM (outM rows [m] ++ [m']) [m'] = outM rows [m] := by
    unfold outM
    rw [List.filter_append]
    have e1 : List.filter (fun r : Row => !([m'].any fun o => PyData.eqv o.dat r.dat)) [m'] = [] := by
      have := (eqv_row m' m').mpr rfl
      simp [this]
    have e2 : List.filter (fun r : Row => !([m'].any fun o => PyData.eqv o.dat r.dat)) (List.filter (fun r : Row => !([m].any fun o => PyData.eqv o.dat r.dat)) rows) = List.filter (fun r : Row => !([m].any fun o => PyData.eqv o.dat r.dat)) rows := by
      refine List.filter_eq_self.mpr fun x hx => ?_
      have hx' : x ∈ outM rows [m] := hx
      obtain ⟨h1, h2⟩ := (out_one okm).mp hx'
      have : ¬ PyData.eqv m'.dat x.dat = true := fun z => by
        have := (eqv_row m' x).mp z
        exact h2 (u.1 x h1 m hm (by rw [← this]; exact hr))
      simp [this]
    rw [e1, e2, List.append_nil]
  rw [e]

end
section
variable [Fam] [Tabz] {P : Program} {w : World} {K : PySem.W.Frag} {mg : Str → Option Value} {base : Heap}
/-! ### a row parted in two: the meeting's mathematics -/
def EvNums (p : Int → Prop) : Evt → Prop
  | .trade b s _ _ => p b ∧ p s
  | .shown m _ => p m
  | .off m _ => p m
  | .less a b _ => p a ∧ p b
theorem anew_nums (x : Row) (k : Int) (p : Int → Prop) (h : p x.num) : (∀ e ∈ (anewM [x] k).1, EvNums p e) ∧ ∀ b ∈ (anewM [x] k).2.1, b.num = x.num := by
  have e : anewM [x] k = anewS ([], [], k) x := rfl
  rw [e]
  unfold anewS
  split
  · exact ⟨fun e he => (by cases he), fun b hb => by rw [List.mem_singleton.mp hb]⟩
  · split
    · refine ⟨fun e he => ?_, fun b hb => ?_⟩
      · rw [List.mem_singleton.mp he]
        exact h
      · rw [List.mem_singleton.mp hb]
    · exact ⟨fun e he => (by cases he), fun b hb => (by cases hb)⟩
theorem tradeE_nums {c : Com} {m : Row} {a : Int} {p : Int → Prop} (h1 : p m.num) (h2 : p c.num) : EvNums p (tradeE c (m, a)) := by
  unfold tradeE
  split
  · exact ⟨h2, h1⟩
  · exact ⟨h1, h2⟩
theorem step_nums {m : Row} {c : Com} {L k : Int} (ok : RowOk m) (hl : 0 < L) (hg : GuardOk c.guard) (p : Int → Prop) (h1 : p m.num) (h2 : p c.num) : (∀ e ∈ (stepM [m] c L k).told, EvNums p e) ∧ (∀ b ∈ (stepM [m] c L k).back, b.num = m.num) ∧ ((stepM [m] c L k).out = [] ∨ (stepM [m] c L k).out = [m]) := by
  by_cases hw : m.who = c.who
  · rw [step_own hw]
    rcases hg with g | g | g | g
    · rw [ownE_old g]
      exact ⟨fun e he => by rw [List.mem_singleton.mp he]; exact h1, fun b hb => (by cases hb), .inr rfl⟩
    · rw [ownE_new g]
      exact ⟨fun e he => by rw [List.mem_singleton.mp he]; exact h2, fun b hb => (by cases hb), .inl rfl⟩
    · rw [ownE_both g]
      refine ⟨fun e he => ?_, fun b hb => (by cases hb), .inr rfl⟩
      rcases List.mem_cons.mp he with z | z
      · rw [z]; exact h1
      · rw [List.mem_singleton.mp z]; exact h2
    · rw [ownE_less g]
      obtain ⟨a1, a2⟩ := anew_nums (hidM m (minM L m.left)) k p h1
      refine ⟨fun e he => ?_, a2, .inr rfl⟩
      rcases List.mem_cons.mp he with z | z
      · rw [z]; exact ⟨h1, h2⟩
      · exact a1 e z
  · rw [step_trade hw ok hl]
    obtain ⟨a1, a2⟩ := anew_nums (seenM m (amtM m L)) k p h1
    refine ⟨fun e he => ?_, a2, .inr rfl⟩
    rcases List.mem_cons.mp he with z | z
    · rw [z]; exact tradeE_nums h1 h2
    · exact a1 e z
/-- all numbers of a run are such -/
theorem meet_nums {B : Nat} {c : Com} (hg : GuardOk c.guard) {band : Option Int} {a0 : Int} (p : Int → Prop) (hc : p c.num) : ∀ {k : Nat} {st : MSt} {fin : MSt × Bool}, MOk B st → (∀ x ∈ st.rows, p x.num) → meetF c band a0 "rank" k st = some fin →
    (∃ E, fin.1.evts = st.evts ++ E ∧ ∀ e ∈ E, EvNums p e) ∧ ∀ x ∈ fin.1.rows, p x.num
  | 0, _, _, _, _, e => by cases e
  | k + 1, st, fin, ok, hn, e => by
    have stop : (∃ E, st.evts = st.evts ++ E ∧ ∀ e ∈ E, EvNums p e) ∧ ∀ x ∈ st.rows, p x.num := ⟨⟨[], (List.append_nil _).symm, fun e he => (by cases he)⟩, hn⟩
    unfold meetF at e
    by_cases q : 0 < st.left
    · rw [if_pos q] at e
      cases hmet : metM st.rows (agM c.side) "rank" with
      | nil =>
        rw [hmet] at e
        cases e
        exact stop
      | cons m tl =>
        rw [hmet] at e
        dsimp only at e
        obtain ⟨z, hm⟩ := met_one hmet
        subst z
        have okn := (next_ok (c := c) ok hmet q hg).1
        obtain ⟨s1, s2, s3⟩ := step_nums (k := st.rank) (ok.rows m hm) q hg p (hn m hm) hc
        split at e
        · split at e
          · cases e
            exact stop
          · have hn2 : ∀ x ∈ (nextM c "rank" st).rows, p x.num := fun x hx => by
              have hx' : x ∈ outM st.rows (stepM (metM st.rows (agM c.side) "rank") c st.left st.rank).out ++ (stepM (metM st.rows (agM c.side) "rank") c st.left st.rank).back := hx
              rw [hmet] at hx'
              rcases List.mem_append.mp hx' with z | z
              · exact hn x (List.mem_filter.mp z).1
              · rw [s2 x z]; exact hn m hm
            obtain ⟨⟨E, e1, e2⟩, r⟩ := meet_nums hg p hc okn hn2 e
            refine ⟨⟨(stepM [m] c st.left st.rank).told ++ E, ?_, fun e he => ?_⟩, r⟩
            · rw [e1]
              show (st.evts ++ (stepM (metM st.rows (agM c.side) "rank") c st.left st.rank).told) ++ E = _
              rw [hmet, List.append_assoc]
            · rcases List.mem_append.mp he with z | z
              · exact s1 e z
              · exact e2 e z
        · cases e
          exact stop
    · rw [if_neg q] at e
      cases e
      exact stop
/-! the row and its two parts -/
def r1M (r : Row) (f : Int) : Row := { r with left := f, seen := f }
def r2M (r : Row) (f : Int) : Row := { r with num := 700, left := r.left - f, seen := r.left - f, rank := r.rank + 1 }
theorem full_take {m : Row} {c : Com} {L k : Int} (hw : m.who ≠ c.who) (ok : RowOk m) (hp : m.part = none) (hl : 0 < L) (h : m.left ≤ L) : stepM [m] c L k = ⟨[tradeE c (m, m.left)], [m], [], L - m.left, k⟩ := by
  have hs := ok.2.2.2.2.1 hp
  rw [step_trade hw ok hl]
  have ea : amtM m L = m.left := by unfold amtM; rw [hs, if_pos h]
  rw [ea]
  have en : anewM [seenM m m.left] k = ([], [], k) := by
    show anewS ([], [], k) (seenM m m.left) = _
    unfold anewS
    have s1 : (seenM m m.left).seen = 0 := by
      show (if m.seen - m.left > 0 then m.seen - m.left else 0) = 0
      rw [hs, if_neg (by omega)]
    have s2 : (seenM m m.left).left = 0 := by show m.left - m.left = 0; omega
    rw [s1, s2, if_neg (by decide), if_neg (by decide)]
  unfold tradeR
  rw [en]
theorem part_take {m : Row} {c : Com} {L k : Int} (hw : m.who ≠ c.who) (ok : RowOk m) (hp : m.part = none) (hl : 0 < L) (h : L < m.left) : stepM [m] c L k = ⟨[tradeE c (m, L)], [m], [{ m with left := m.left - L, seen := m.left - L }], 0, k⟩ := by
  have hs := ok.2.2.2.2.1 hp
  rw [step_trade hw ok hl]
  have ea : amtM m L = L := by unfold amtM; rw [hs, if_neg (by omega)]
  rw [ea]
  have es : seenM m L = { m with left := m.left - L, seen := m.left - L } := by
    unfold seenM
    rw [hs, if_pos (by omega)]
  have en : anewM [seenM m L] k = ([], [{ m with left := m.left - L, seen := m.left - L }], k) := by
    show anewS ([], [], k) (seenM m L) = _
    rw [es]
    unfold anewS
    rw [if_pos (show ({ m with left := m.left - L, seen := m.left - L } : Row).seen > 0 by show m.left - L > 0; omega)]
    rfl
  unfold tradeR
  rw [en]
  have : L - L = 0 := by omega
  rw [this]
/-- what rows come to: left, seen, the least even rank -/
def agS (o : Int × Int × Int) (r : Row) : Int × Int × Int := (o.1 + r.left, o.2.1 + r.seen, minM o.2.2 (r.rank - r.rank % 2))
def agg (rs : List Row) : Int × Int × Int := rs.foldl agS (0, 0, 10 ^ 9)
def MidOk (c : Com) (r : Row) (mid mid' : List Evt) : Prop :=
  (mid = [] ∧ mid' = []) ∨ (∃ a, mid = [tradeE c (r, a)] ∧ mid' = mid) ∨ ∃ a b, mid = [tradeE c (r, a + b)] ∧ mid' = [tradeE c (r, a), tradeE c ({ r with num := 700 }, b)]
structure RsOk (r : Row) (Rs Rs' : List Row) : Prop where
  n : ∀ x ∈ Rs, x.num = r.num
  n' : ∀ x ∈ Rs', x.num = r.num ∨ x.num = 700
  e : Rs = [] ↔ Rs' = []
  a : agg Rs = agg Rs'
abbrev NotR (r : Row) : Int → Prop := fun n => n ≠ r.num ∧ n ≠ 700
structure TwOut (c : Com) (r : Row) (ev : List Evt) (fin fin' : MSt × Bool) : Prop where
  h : fin'.2 = fin.2
  l : fin'.1.left = fin.1.left
  k : fin'.1.rank = fin.1.rank
  ev : ∃ E1 mid mid' E2, fin.1.evts = ev ++ E1 ++ mid ++ E2 ∧ fin'.1.evts = ev ++ E1 ++ mid' ++ E2 ∧ (∀ e ∈ E1, EvNums (NotR r) e) ∧ (∀ e ∈ E2, EvNums (NotR r) e) ∧ MidOk c r mid mid'
  rows : ∃ X Rs Rs', fin.1.rows.Perm (X ++ Rs) ∧ fin'.1.rows.Perm (X ++ Rs') ∧ (∀ x ∈ X, NotR r x.num) ∧ RsOk r Rs Rs'
structure Tw (B : Nat) (c : Com) (r : Row) (f : Int) (X : List Row) (st st' : MSt) : Prop where
  p : st.rows.Perm (X ++ [r])
  p' : st'.rows.Perm (X ++ [r1M r f, r2M r f])
  ev : st'.evts = st.evts
  l : st'.left = st.left
  k : st'.rank = st.rank
  ok : MOk B st
  ok' : MOk (B + 1) st'
  u : UR st.rows st.rank
  u' : UR st'.rows st'.rank
  n : ∀ x ∈ X, NotR r x.num
  hc : NotR r c.num
  w : r.who ≠ c.who
  pt : r.part = none
  ev2 : r.rank % 2 = 0
  kb : r.rank < 10 ^ 8
  f0 : 0 < f
  f1 : f < r.left
theorem rs_start {r : Row} {f : Int} (pt : r.part = none) (ok : RowOk r) (h2 : r.rank % 2 = 0) (kb : r.rank < 10 ^ 8) : RsOk r [r] [r1M r f, r2M r f] := by
  have hs := ok.2.2.2.2.1 pt
  refine ⟨fun x hx => by rw [List.mem_singleton.mp hx], fun x hx => ?_, by simp, ?_⟩
  · rcases List.mem_cons.mp hx with e | e
    · rw [e]; exact .inl rfl
    · rw [List.mem_singleton.mp e]; exact .inr rfl
  · show ((0 : Int) + r.left, (0 : Int) + r.seen, minM (10 ^ 9) (r.rank - r.rank % 2)) = (0 + f + (r.left - f), 0 + f + (r.left - f), minM (minM (10 ^ 9) (r.rank - r.rank % 2)) (r.rank + 1 - (r.rank + 1) % 2))
    have e1 : r.rank - r.rank % 2 = r.rank := by omega
    have e2 : r.rank + 1 - (r.rank + 1) % 2 = r.rank := by omega
    rw [e1, e2, hs]
    have m1 : minM (10 ^ 9) r.rank = r.rank := by unfold minM; rw [if_pos (by omega)]
    have m2 : minM r.rank r.rank = r.rank := by unfold minM; rw [if_neg (by omega)]
    rw [m1, m2]
    congr 1
    · omega
    · congr 1
      omega
/-- only the first part has less -/
theorem rs_first {r : Row} {f L : Int} (h2 : r.rank % 2 = 0) (kb : r.rank < 10 ^ 8) : RsOk r [{ r with left := r.left - L, seen := r.left - L }] [{ r1M r f with left := f - L, seen := f - L }, r2M r f] := by
  refine ⟨fun x hx => by rw [List.mem_singleton.mp hx], fun x hx => ?_, by simp, ?_⟩
  · rcases List.mem_cons.mp hx with e | e
    · rw [e]; exact .inl rfl
    · rw [List.mem_singleton.mp e]; exact .inr rfl
  · show ((0 : Int) + (r.left - L), (0 : Int) + (r.left - L), minM (10 ^ 9) (r.rank - r.rank % 2)) = (0 + (f - L) + (r.left - f), 0 + (f - L) + (r.left - f), minM (minM (10 ^ 9) (r.rank - r.rank % 2)) (r.rank + 1 - (r.rank + 1) % 2))
    have e1 : r.rank - r.rank % 2 = r.rank := by omega
    have e2 : r.rank + 1 - (r.rank + 1) % 2 = r.rank := by omega
    rw [e1, e2]
    have m1 : minM (10 ^ 9) r.rank = r.rank := by unfold minM; rw [if_pos (by omega)]
    have m2 : minM r.rank r.rank = r.rank := by unfold minM; rw [if_neg (by omega)]
    rw [m1, m2]
    congr 1
    · omega
    · congr 1
      omega
theorem rs_second {r : Row} {a b : Int} (h2 : r.rank % 2 = 0) (h : a = b) (f : Int) : RsOk r [{ r with left := a, seen := a }] [{ r2M r f with left := b, seen := b }] := by
  subst h
  refine ⟨fun x hx => by rw [List.mem_singleton.mp hx], fun x hx => ?_, by simp, ?_⟩
  · rw [List.mem_singleton.mp hx]; exact .inr rfl
  · show ((0 : Int) + a, (0 : Int) + a, minM (10 ^ 9) (r.rank - r.rank % 2)) = (0 + a, 0 + a, minM (10 ^ 9) (r.rank + 1 - (r.rank + 1) % 2))
    have e1 : r.rank - r.rank % 2 = r.rank := by omega
    have e2 : r.rank + 1 - (r.rank + 1) % 2 = r.rank := by omega
    rw [e1, e2]
theorem rs_none {r : Row} : RsOk r [] [] := ⟨fun x hx => (by cases hx), fun x hx => (by cases hx), Iff.rfl, rfl⟩

end
section
variable [Fam] [Tabz] {P : Program} {w : World} {K : PySem.W.Frag} {mg : Str → Option Value} {base : Heap}
/-! ### a row parted in two: the run -/
theorem met_nil {rows : List Row} {s : Str} : metM rows s "rank" = [] ↔ ∀ x ∈ rows, x.side ≠ s := by
  constructor
  · intro h x hx e
    have ms : x ∈ sideM rows s := List.mem_filter.mpr ⟨hx, decide_eq_true e⟩
    have ne : (sideM rows s).isEmpty = false := by
      cases h : sideM rows s with
      | nil => rw [h] at ms; cases ms
      | cons _ _ => rfl
    unfold metM at h
    rw [ne, if_neg (by decide), if_neg (by decide +kernel)] at h
    have hne : (sideM rows s).map Row.price ≠ [] := fun z => by
      rw [List.map_eq_nil_iff.mp z] at ms
      cases ms
    obtain ⟨y, hy, ey⟩ := List.mem_map.mp (best_mem (s := s) hne)
    have hl : y ∈ levelM rows s := List.mem_mergeSort.mpr (List.mem_filter.mpr ⟨hy, decide_eq_true ey⟩)
    cases hq : levelM rows s with
    | nil => rw [hq] at hl; cases hl
    | cons z zs => rw [hq] at h; cases h
  · intro h
    unfold metM
    have e : sideM rows s = [] := List.filter_eq_nil_iff.mpr fun x hx z => h x hx (of_decide_eq_true z)
    rw [e]
    rfl
theorem next_eq {c : Com} {st : MSt} {m : Row} {res : Res} (hmet : metM st.rows (agM c.side) "rank" = [m]) (hs : stepM [m] c st.left st.rank = res) : nextM c "rank" st = ⟨outM st.rows res.out ++ res.back, st.evts ++ res.told, res.left, res.rank⟩ := by
  unfold nextM
  rw [hmet, hs]
theorem out_app (A B o : List Row) : outM (A ++ B) o = outM A o ++ outM B o := List.filter_append _ _
theorem out_keep {A : List Row} {m : Row} (h : ∀ x ∈ A, x ≠ m) : outM A [m] = A := by
  refine List.filter_eq_self.mpr fun x hx => ?_
  have : ¬ PyData.eqv m.dat x.dat = true := fun z => h x hx ((eqv_row m x).mp z).symm
  simp [this]
theorem out_self (m : Row) : outM [m] [m] = [] := by
  have := (eqv_row m m).mpr rfl
  unfold outM
  simp [this]
theorem meet_stop {c : Com} {band : Option Int} {a0 : Int} {st : MSt} (q : ¬ 0 < st.left) : meetF c band a0 "rank" 1 st = some (st, false) := by
  unfold meetF
  rw [if_neg q]
/-- the same run from rows in another order, with other events ahead -/
theorem meet_again {B : Nat} {c : Com} {band : Option Int} {a0 : Int} (hg : GuardOk c.guard) {k : Nat} {st st' : MSt} {fin : MSt × Bool} (ok : MOk B st) (u : UR st.rows st.rank) (p : st.rows.Perm st'.rows) (l : st'.left = st.left) (kk : st'.rank = st.rank) {E : List Evt}
    (h : meetF c band a0 "rank" k st = some fin) (hE : fin.1.evts = st.evts ++ E) : ∃ rows'', fin.1.rows.Perm rows'' ∧ meetF c band a0 "rank" k st' = some (⟨rows'', st'.evts ++ E, fin.1.left, fin.1.rank⟩, fin.2) := by
  obtain ⟨rows'', p2, h2⟩ := meet_perm hg ok u p h
  refine ⟨rows'', p2, ?_⟩
  rw [meet_ev] at h2 ⊢
  have e : ({ st' with evts := [] } : MSt) = { ({ st with rows := st'.rows } : MSt) with evts := [] } := by
    obtain ⟨r', e', l', k'⟩ := st'
    obtain ⟨r, e, l0, k0⟩ := st
    cases l
    cases kk
    rfl
  rw [e]
  have h2' : Option.map (preE st.evts) (meetF c band a0 "rank" k { ({ st with rows := st'.rows } : MSt) with evts := [] }) = some ({ fin.1 with rows := rows'' }, fin.2) := h2
  cases q : meetF c band a0 "rank" k { ({ st with rows := st'.rows } : MSt) with evts := [] } with
  | none => rw [q] at h2'; cases h2'
  | some g =>
    rw [q] at h2'
    have h3 : preE st.evts g = (⟨rows'', fin.1.evts, fin.1.left, fin.1.rank⟩, fin.2) := Option.some.inj h2'
    show some (preE st'.evts g) = _
    have g1 : g.1.rows = rows'' := congrArg (fun z : MSt × Bool => z.1.rows) h3
    have g2 : st.evts ++ g.1.evts = fin.1.evts := congrArg (fun z : MSt × Bool => z.1.evts) h3
    have g3 : g.1.left = fin.1.left := (congrArg (fun z : MSt × Bool => z.1.left) h3 : (preE st.evts g).1.left = _)
    have g4 : g.1.rank = fin.1.rank := (congrArg (fun z : MSt × Bool => z.1.rank) h3 : (preE st.evts g).1.rank = _)
    have g5 : g.2 = fin.2 := (congrArg (fun z : MSt × Bool => z.2) h3 : (preE st.evts g).2 = _)
    rw [hE] at g2
    have g6 : g.1.evts = E := List.append_cancel_left g2
    unfold preE
    rw [← g1, ← g3, ← g4, ← g5, g6]
theorem NotR.ne {r x m : Row} (hx : NotR r x.num) (hm : m.num = r.num ∨ m.num = 700) : x ≠ m := fun e => by
  rw [e] at hx
  rcases hm with h | h
  · exact hx.1 h
  · exact hx.2 h
theorem tw_sim {B : Nat} {c : Com} (hg : GuardOk c.guard) {band : Option Int} {a0 : Int} {r : Row} {f : Int} : ∀ {k : Nat} {X : List Row} {st st' : MSt} {fin : MSt × Bool}, Tw B c r f X st st' → meetF c band a0 "rank" k st = some fin →
    ∃ k' fin', meetF c band a0 "rank" k' st' = some fin' ∧ TwOut c r st.evts fin fin'
  | 0, _, _, _, _, _, e => by cases e
  | k + 1, X, st, st', fin, T, h => by
    have hr : r ∈ st.rows := T.p.mem_iff.mpr (by simp)
    have h1 : r1M r f ∈ st'.rows := T.p'.mem_iff.mpr (by simp)
    have h2 : r2M r f ∈ st'.rows := T.p'.mem_iff.mpr (by simp)
    have hX : ∀ x ∈ X, x ∈ st.rows ∧ x ∈ st'.rows := fun x hx => ⟨T.p.mem_iff.mpr (by simp [hx]), T.p'.mem_iff.mpr (by simp [hx])⟩
    have rok := T.ok.rows r hr
    have in1 : ∀ x ∈ st.rows, x ∈ X ∨ x = r := fun x hx => by
      have := T.p.mem_iff.mp hx
      simpa using this
    have in2 : ∀ x ∈ st'.rows, x ∈ X ∨ x = r1M r f ∨ x = r2M r f := fun x hx => by
      have := T.p'.mem_iff.mp hx
      simpa using this
    have stop : ∀ hl, TwOut c r st.evts (st, hl) (st', hl) := fun hl => ⟨rfl, T.l, T.k, ⟨[], [], [], [], by simp, by rw [T.ev]; simp, fun e he => (by cases he), fun e he => (by cases he), .inl ⟨rfl, rfl⟩⟩, ⟨X, _, _, T.p, T.p', T.n, rs_start T.pt rok T.ev2 T.kb⟩⟩
    unfold meetF at h
    by_cases q : 0 < st.left
    case neg =>
      rw [if_neg q] at h
      cases h
      exact ⟨1, _, meet_stop (by rw [T.l]; exact q), stop _⟩
    rw [if_pos q] at h
    have q' : 0 < st'.left := by rw [T.l]; exact q
    have oX : ∀ {m : Row}, (m.num = r.num ∨ m.num = 700) → outM X [m] = X := fun {m} hm => out_keep fun x hx => (T.n x hx).ne hm
    cases hmet : metM st.rows (agM c.side) "rank" with
    | nil =>
      rw [hmet] at h
      cases h
      have ns := met_nil.mp hmet
      have e' : metM st'.rows (agM c.side) "rank" = [] := met_nil.mpr fun x hx => by
        rcases in2 x hx with z | z | z
        · exact ns x (hX x z).1
        · rw [z]; exact ns r hr
        · rw [z]; exact ns r hr
      refine ⟨1, (st', false), ?_, stop _⟩
      unfold meetF
      rw [if_pos q', e']
    | cons m tl =>
      rw [hmet] at h
      dsimp only at h
      have F := first_of hmet
      obtain ⟨ztl, hm⟩ := met_one hmet
      subst ztl
      rcases in1 m hm with hmX | hmr
      · -- another row is met
        have hn := T.n m hmX
        have F' : FirstM st'.rows (agM c.side) m := by
          refine ⟨(hX m hmX).2, F.side, fun x hx hs => ?_, fun x hx hs hp => ?_⟩
          · rcases in2 x hx with z | z | z
            · exact F.best x (hX x z).1 hs
            · rw [z] at hs ⊢; exact F.best r hr hs
            · rw [z] at hs ⊢; exact F.best r hr hs
          · rcases in2 x hx with z | z | z
            · exact F.rank x (hX x z).1 hs hp
            · rw [z] at hs hp ⊢; exact F.rank r hr hs hp
            · rw [z] at hs hp ⊢
              have := F.rank r hr hs hp
              show m.rank ≤ r.rank + 1
              omega
        have hmet' := first_to T.u' F'
        split at h
        · rename_i q1
          split at h
          · rename_i q2
            cases h
            refine ⟨1, (st', true), ?_, stop _⟩
            unfold meetF
            rw [if_pos q', hmet']
            dsimp only
            rw [if_pos q1, if_pos q2]
          · rename_i q2
            have q2' : farM m.price band a0 = false := by simpa using q2
            have okn := (next_ok (c := c) T.ok hmet q hg).1
            have okn' := (next_ok (c := c) T.ok' hmet' q' hg).1
            have un := next_UR (c := c) hmet T.u T.ok.rows q hg
            have un' := next_UR (c := c) hmet' T.u' T.ok'.rows q' hg
            obtain ⟨s1, s2, s3⟩ := step_nums (k := st.rank) (T.ok.rows m hm) q hg (NotR r) hn T.hc
            have es : stepM [m] c st'.left st'.rank = stepM [m] c st.left st.rank := by rw [T.l, T.k]
            have e1 := next_eq hmet (res := stepM [m] c st.left st.rank) rfl
            have e2 := next_eq hmet' es
            generalize stepM [m] c st.left st.rank = res at e1 e2 s1 s2 s3
            have oo : ∀ R : List Row, (∀ x ∈ R, x ≠ m) → outM R res.out = R := fun R hR => by
              rcases s3 with z | z
              · rw [z]; exact out_none R
              · rw [z]; exact out_keep hR
            have T2 : Tw B c r f (outM X res.out ++ res.back) (nextM c "rank" st) (nextM c "rank" st') := by
              refine ⟨?_, ?_, ?_, ?_, ?_, okn, okn', un, un', fun x hx => ?_, T.hc, T.w, T.pt, T.ev2, T.kb, T.f0, T.f1⟩
              · rw [e1]
                show (outM st.rows res.out ++ res.back).Perm _
                have p1 : (outM st.rows res.out).Perm (outM (X ++ [r]) res.out) := T.p.filter _
                rw [out_app, oo [r] fun x hx => by rw [List.mem_singleton.mp hx]; exact (hn.ne (.inl rfl)).symm] at p1
                refine (p1.append_right _).trans ?_
                rw [List.append_assoc, List.append_assoc]
                exact List.Perm.append_left _ List.perm_append_comm
              · rw [e2]
                show (outM st'.rows res.out ++ res.back).Perm _
                have p1 : (outM st'.rows res.out).Perm (outM (X ++ [r1M r f, r2M r f]) res.out) := T.p'.filter _
                rw [out_app, oo [r1M r f, r2M r f] fun x hx => by
                  rcases List.mem_cons.mp hx with z | z
                  · rw [z]; exact (hn.ne (m := r1M r f) (.inl rfl)).symm
                  · rw [List.mem_singleton.mp z]; exact (hn.ne (m := r2M r f) (.inr rfl)).symm] at p1
                refine (p1.append_right _).trans ?_
                rw [List.append_assoc, List.append_assoc]
                exact List.Perm.append_left _ List.perm_append_comm
              · rw [e1, e2, T.ev]
              · rw [e1, e2]
              · rw [e1, e2]
              · rcases List.mem_append.mp hx with z | z
                · exact T.n x (List.mem_filter.mp z).1
                · rw [s2 x z]; exact hn
            obtain ⟨k', fin', h5, O⟩ := tw_sim hg T2 h
            obtain ⟨E1, mid, mid', E2, o1, o2, o3, o4, o5⟩ := O.ev
            refine ⟨k' + 1, fin', (meet_go q' hmet' q1 q2').trans h5, O.h, O.l, O.k, ⟨res.told ++ E1, mid, mid', E2, ?_, ?_, fun e he => ?_, o4, o5⟩, O.rows⟩
            · rw [o1, e1]
              simp only [List.append_assoc]
            · rw [o2, e1]
              simp only [List.append_assoc]
            · rcases List.mem_append.mp he with z | z
              · exact s1 e z
              · exact o3 e z
        · rename_i q1
          cases h
          refine ⟨1, (st', false), ?_, stop _⟩
          unfold meetF
          rw [if_pos q', hmet']
          dsimp only
          rw [if_neg q1]
      · -- the row itself
        subst hmr
        have F1 : FirstM st'.rows (agM c.side) (r1M m f) := by
          refine ⟨h1, F.side, fun x hx hs => ?_, fun x hx hs hp => ?_⟩
          · rcases in2 x hx with z | z | z
            · exact F.best x (hX x z).1 hs
            · rw [z] at hs ⊢; exact F.best m hr hs
            · rw [z] at hs ⊢; exact F.best m hr hs
          · rcases in2 x hx with z | z | z
            · exact F.rank x (hX x z).1 hs hp
            · rw [z]; exact Int.le_refl _
            · rw [z]
              show m.rank ≤ m.rank + 1
              omega
        have hmet' := first_to T.u' F1
        split at h
        case isFalse q1 =>
          cases h
          refine ⟨1, (st', false), ?_, stop _⟩
          unfold meetF
          rw [if_pos q', hmet']
          dsimp only
          rw [if_neg (show ¬ letsM c.price c.side (r1M m f).price = true from q1)]
        rename_i q1
        split at h
        case isTrue q2 =>
          cases h
          refine ⟨1, (st', true), ?_, stop _⟩
          unfold meetF
          rw [if_pos q', hmet']
          dsimp only
          rw [if_pos (show letsM c.price c.side (r1M m f).price = true from q1), if_pos (show farM (r1M m f).price band a0 = true from q2)]
        rename_i q2
        have q2' : farM m.price band a0 = false := by simpa using q2
        have ok1 : RowOk (r1M m f) := T.ok'.rows _ h1
        have ok2 : RowOk (r2M m f) := T.ok'.rows _ h2
        have q1a : letsM c.price c.side (r1M m f).price = true := q1
        have q2a : farM (r1M m f).price band a0 = false := q2'
        have outO : (outM st.rows [m]).Perm X := by
          have p1 : (outM st.rows [m]).Perm (outM (X ++ [m]) [m]) := T.p.filter _
          rw [out_app, out_self, oX (.inl rfl), List.append_nil] at p1
          exact p1
        have ne12 : r2M m f ≠ r1M m f := fun e => by
          have e := congrArg Row.rank e
          have e' : m.rank + 1 = m.rank := e
          omega
        have out1 : (outM st'.rows [r1M m f]).Perm (X ++ [r2M m f]) := by
          have p1 : (outM st'.rows [r1M m f]).Perm (outM (X ++ [r1M m f, r2M m f]) [r1M m f]) := T.p'.filter _
          rw [out_app, oX (m := r1M m f) (.inl rfl), show [r1M m f, r2M m f] = [r1M m f] ++ [r2M m f] from rfl, out_app, out_self, out_keep (A := [r2M m f]) fun x hx => by rw [List.mem_singleton.mp hx]; exact ne12] at p1
          exact p1
        by_cases c1 : st.left < f
        · -- a part of the first part
          have eo := next_eq hmet (part_take (k := st.rank) T.w rok T.pt q (Int.lt_trans c1 T.f1))
          have eo' := next_eq hmet' (part_take (m := r1M m f) (k := st'.rank) T.w ok1 T.pt q' (by show st'.left < f; rw [T.l]; exact c1))
          have ef := meet_end (by rw [eo]; show ¬ (0 : Int) < 0; omega) h
          refine ⟨2, (nextM c "rank" st', false), (meet_go q' hmet' q1a q2a).trans (meet_stop (by rw [eo']; show ¬ (0 : Int) < 0; omega)), ?_⟩
          rw [ef, eo, eo']
          refine ⟨rfl, rfl, T.k, ⟨[], [tradeE c (m, st.left)], [tradeE c (m, st.left)], [], by simp, ?_, fun e he => (by cases he), fun e he => (by cases he), .inr (.inl ⟨_, rfl, rfl⟩)⟩, ⟨X, _, _, ?_, ?_, T.n, rs_first (f := f) (L := st.left) T.ev2 T.kb⟩⟩
          · rw [T.ev, T.l]
            simp
            rfl
          · exact outO.append_right _
          · rw [T.l]
            refine (out1.append_right _).trans ?_
            rw [List.append_assoc]
            exact List.Perm.append_left _ (List.Perm.swap ..)
        · by_cases c2 : st.left = f
          · -- the first part
            have eo := next_eq hmet (part_take (k := st.rank) T.w rok T.pt q (by rw [c2]; exact T.f1))
            have eo' := next_eq hmet' (full_take (m := r1M m f) (k := st'.rank) T.w ok1 T.pt q' (by show f ≤ st'.left; rw [T.l]; omega))
            have ef := meet_end (by rw [eo]; show ¬ (0 : Int) < 0; omega) h
            have l0 : st'.left - (r1M m f).left = 0 := by show st'.left - f = 0; rw [T.l]; omega
            rw [l0] at eo'
            refine ⟨2, (nextM c "rank" st', false), (meet_go q' hmet' q1a q2a).trans (meet_stop (by rw [eo']; show ¬ (0 : Int) < 0; omega)), ?_⟩
            rw [ef, eo, eo']
            refine ⟨rfl, rfl, T.k, ⟨[], [tradeE c (m, st.left)], [tradeE c (m, st.left)], [], by simp, ?_, fun e he => (by cases he), fun e he => (by cases he), .inr (.inl ⟨_, rfl, rfl⟩)⟩, ⟨X, _, _, ?_, ?_, T.n, rs_second (a := m.left - st.left) (b := m.left - f) T.ev2 (by omega) f⟩⟩
            · rw [T.ev, c2]
              simp
              rfl
            · exact outO.append_right _
            · show (outM st'.rows [r1M m f] ++ []).Perm _
              rw [List.append_nil]
              exact out1
          · -- both parts
            have c3 : f < st.left := by omega
            have eo' := next_eq hmet' (full_take (m := r1M m f) (k := st'.rank) T.w ok1 T.pt q' (by show f ≤ st'.left; rw [T.l]; omega))
            have okn' := (next_ok (c := c) T.ok' hmet' q' hg).1
            have un' := next_UR (c := c) hmet' T.u' T.ok'.rows q' hg
            rw [List.append_nil, show (r1M m f).left = f from rfl] at eo'
            generalize hN : nextM c "rank" st' = N at okn' un' eo'
            subst eo'
            have qN : 0 < (⟨outM st'.rows [r1M m f], st'.evts ++ [tradeE c (r1M m f, f)], st'.left - f, st'.rank⟩ : MSt).left := by show 0 < st'.left - f; rw [T.l]; omega
            have inN : ∀ x ∈ outM st'.rows [r1M m f], x ∈ X ∨ x = r2M m f := fun x hx => by
              have := out1.mem_iff.mp hx
              simpa using this
            have h2N : r2M m f ∈ outM st'.rows [r1M m f] := out1.mem_iff.mpr (by simp)
            have F2 : FirstM (outM st'.rows [r1M m f]) (agM c.side) (r2M m f) := by
              refine ⟨h2N, F.side, fun x hx hs => ?_, fun x hx hs hp => ?_⟩
              · rcases inN x hx with z | z
                · exact F.best x (hX x z).1 hs
                · rw [z] at hs ⊢; exact F.best m hr hs
              · rcases inN x hx with z | z
                · have g1 := F.rank x (hX x z).1 hs hp
                  have g2 : x.rank ≠ m.rank := fun e => by
                    have := T.u.1 x (hX x z).1 m hr e
                    exact (T.n x z).ne (.inl rfl) this
                  show m.rank + 1 ≤ x.rank
                  omega
                · rw [z]; exact Int.le_refl _
            have hmet2 := first_to un' F2
            have q1b : letsM c.price c.side (r2M m f).price = true := q1
            have q2b : farM (r2M m f).price band a0 = false := q2'
            have out2 : (outM (outM st'.rows [r1M m f]) [r2M m f]).Perm X := by
              have p1 : (outM (outM st'.rows [r1M m f]) [r2M m f]).Perm (outM (X ++ [r2M m f]) [r2M m f]) := out1.filter _
              rw [out_app, out_self, oX (m := r2M m f) (.inr rfl), List.append_nil] at p1
              exact p1
            by_cases c4 : st.left < m.left
            · have eo := next_eq hmet (part_take (k := st.rank) T.w rok T.pt q c4)
              have e2 := next_eq hmet2 (part_take (m := r2M m f) (k := st'.rank) T.w ok2 T.pt qN (by show st'.left - f < m.left - f; rw [T.l]; omega))
              have ef := meet_end (by rw [eo]; show ¬ (0 : Int) < 0; omega) h
              refine ⟨3, (nextM c "rank" ⟨outM st'.rows [r1M m f], st'.evts ++ [tradeE c (r1M m f, f)], st'.left - f, st'.rank⟩, false), (meet_go q' hmet' q1a q2a).trans ?_, ?_⟩
              · rw [hN]
                exact (meet_go qN hmet2 q1b q2b).trans (meet_stop (by rw [e2]; show ¬ (0 : Int) < 0; omega))
              rw [ef, eo, e2]
              refine ⟨rfl, rfl, T.k, ⟨[], [tradeE c (m, f + (st.left - f))], [tradeE c (m, f), tradeE c ({ m with num := 700 }, st.left - f)], [], ?_, ?_, fun e he => (by cases he), fun e he => (by cases he), .inr (.inr ⟨_, _, rfl, rfl⟩)⟩, ⟨X, _, _, ?_, ?_, T.n, rs_second (a := m.left - st.left) (b := m.left - f - (st.left - f)) T.ev2 (by omega) f⟩⟩
              · rw [show f + (st.left - f) = st.left by omega]
                simp
              · rw [T.ev, T.l]
                simp only [List.append_assoc, List.append_nil, List.nil_append]
                rfl
              · exact outO.append_right _
              · rw [T.l]
                exact out2.append_right _
            · have eo := next_eq hmet (full_take (k := st.rank) T.w rok T.pt q (by omega))
              have okn := (next_ok (c := c) T.ok hmet q hg).1
              have un := next_UR (c := c) hmet T.u T.ok.rows q hg
              have e2 := next_eq hmet2 (full_take (m := r2M m f) (k := st'.rank) T.w ok2 T.pt qN (by show m.left - f ≤ st'.left - f; rw [T.l]; omega))
              rw [List.append_nil] at eo e2
              have nums : ∀ x ∈ (nextM c "rank" st).rows, NotR m x.num := fun x hx => by
                rw [eo] at hx
                exact T.n x (outO.mem_iff.mp hx)
              obtain ⟨⟨E2, he2, hE2⟩, hn2⟩ := meet_nums hg (NotR m) T.hc okn nums h
              obtain ⟨rows'', p5, h5⟩ := meet_again (st' := nextM c "rank" ⟨outM st'.rows [r1M m f], st'.evts ++ [tradeE c (r1M m f, f)], st'.left - f, st'.rank⟩) hg okn un (by rw [eo, e2]; exact outO.trans out2.symm)
                (by rw [eo, e2]; show st'.left - f - (m.left - f) = st.left - m.left; rw [T.l]; omega) (by rw [eo, e2]; exact T.k) h he2
              refine ⟨k + 2, (⟨rows'', (nextM c "rank" ⟨outM st'.rows [r1M m f], st'.evts ++ [tradeE c (r1M m f, f)], st'.left - f, st'.rank⟩).evts ++ E2, fin.1.left, fin.1.rank⟩, fin.2), (meet_go q' hmet' q1a q2a).trans ?_, ?_⟩
              · rw [hN]
                exact (meet_go qN hmet2 q1b q2b).trans h5
              refine ⟨rfl, rfl, rfl, ⟨[], [tradeE c (m, f + (m.left - f))], [tradeE c (m, f), tradeE c ({ m with num := 700 }, m.left - f)], E2, ?_, ?_, fun e he => (by cases he), hE2, .inr (.inr ⟨_, _, rfl, rfl⟩)⟩, ⟨fin.1.rows, [], [], by rw [List.append_nil], by rw [List.append_nil]; exact p5.symm, hn2, rs_none⟩⟩
              · rw [he2, eo, show f + (m.left - f) = m.left by omega]
                simp
              · rw [e2, T.ev]
                show ((st.evts ++ [tradeE c (r1M m f, f)]) ++ [tradeE c (r2M m f, (r2M m f).left)]) ++ E2 = _
                simp only [List.append_assoc, List.append_nil, List.nil_append]
                rfl

end
section
variable [Fam] [Tabz] {P : Program} {w : World} {K : PySem.W.Frag} {mg : Str → Option Value} {base : Heap}
/-! ### events as data -/
theorem Evt.lay (e : Evt) : e.dat.canLay0 = true := by
  cases e <;> (simp only [Evt.dat, PyData.canLay0, PyData.canLayAll0]; decide +kernel)
theorem Evt.depth (e : Evt) : e.dat.depth = 1 := by
  cases e <;> simp [Evt.dat, PyData.depth, PyData.depthAll]
theorem evts_lay : ∀ es : List Evt, PyData.canLayAll0 (es.map Evt.dat) = true
  | [] => rfl
  | e :: es => by
    show (PyData.canLay0 e.dat && PyData.canLayAll0 (es.map Evt.dat)) = true
    rw [Evt.lay, evts_lay es]
    rfl
theorem evts_depth : ∀ es : List Evt, PyData.depthAll (es.map Evt.dat) ≤ 1
  | [] => by show 0 ≤ 1; omega
  | e :: es => by
    have := evts_depth es
    simp only [List.map_cons, PyData.depthAll, Evt.depth]
    omega
theorem evts_shaped (es : List Evt) : SeqAt.shaped (.list (es.map Evt.dat)) = true := by
  have d1 := evts_depth es
  unfold SeqAt.shaped
  have e : (PyData.list (es.map Evt.dat)).canLay0 = true := by
    simp only [PyData.canLay0]
    exact evts_lay es
  rw [e, Bool.true_and]
  refine decide_eq_true ?_
  simp only [PyData.depth]
  omega
def headE : Evt → List PyData
  | .trade b s p _ => [.str "trade", .int b, .int s, .int p]
  | .shown m _ => [.str "shown", .int m]
  | .off m a => [.str "off", .int m, .int a]
  | .less r c _ => [.str "less", .int r, .int c]
def twoE : Evt → List PyData
  | .trade b s _ _ => [.str "trade", .int b]
  | .shown m n => [.str "shown", .int m]
  | .off m _ => [.str "off", .int m]
  | .less r c _ => [.str "less", .int r]
theorem head_cut (e : Evt) : opSlT e.dat none (some (-1)) = some (.d (.tuple (headE e))) := by cases e <;> rfl
theorem two_cut (e : Evt) : opSlT e.dat none (some 2) = some (.d (.tuple (twoE e))) := by cases e <;> rfl
theorem head_shaped (e : Evt) : SeqAt.shaped (.tuple (headE e)) = true := by
  cases e <;> (simp [headE, SeqAt.shaped, PyData.canLay0, PyData.canLayAll0, PyData.depth, PyData.depthAll]; decide +kernel)
theorem two_shaped (e : Evt) : SeqAt.shaped (.tuple (twoE e)) = true := by
  cases e <;> (simp [twoE, SeqAt.shaped, PyData.canLay0, PyData.canLayAll0, PyData.depth, PyData.depthAll]; decide +kernel)
def isTL : Evt → Bool
  | .trade .. => true
  | .less .. => true
  | _ => false
def isOff : Evt → Bool
  | .off .. => true
  | _ => false
theorem ne_str {a b : String} (h : Str.ofString a ≠ Str.ofString b) : PyData.eqv (.str a) (.str b) = false := by
  cases e : PyData.eqv (.str a) (.str b) with
  | false => rfl
  | true => exact absurd (by simpa [PyData.eqv] using e) h
theorem ev_1 : (Str.ofString "shown" == Str.ofString "trade") = false := by decide +kernel
theorem ev_2 : (Str.ofString "off" == Str.ofString "trade") = false := by decide +kernel
theorem ev_3 : (Str.ofString "less" == Str.ofString "trade") = false := by decide +kernel
theorem ev_4 : (Str.ofString "trade" == Str.ofString "less") = false := by decide +kernel
theorem ev_5 : (Str.ofString "shown" == Str.ofString "less") = false := by decide +kernel
theorem ev_6 : (Str.ofString "off" == Str.ofString "less") = false := by decide +kernel
theorem ev_7 : (Str.ofString "trade" == Str.ofString "off") = false := by decide +kernel
theorem ev_8 : (Str.ofString "shown" == Str.ofString "off") = false := by decide +kernel
theorem ev_9 : (Str.ofString "less" == Str.ofString "off") = false := by decide +kernel
theorem eq_head (l : Evt) {e : Evt} (h : isTL e = true) : opEqD (.tuple (headE l)) (.tuple (headE e)) = some (.d (.bool (mergeE l e).isSome)) := by
  have hs : opEqD (.tuple (headE l)) (.tuple (headE e)) = some (.d (.bool (PyData.eqv (.tuple (headE l)) (.tuple (headE e))))) := if_pos ⟨head_shaped l, head_shaped e⟩
  rw [hs]
  congr 3
  cases e <;> cases h <;> cases l <;> simp only [headE, PyData.eqv, PyData.eqvAll, mergeE, Option.isSome_none, ev_1, ev_2, ev_3, ev_4, ev_5, ev_6, Bool.false_and]
  all_goals (split <;> simp_all)
theorem eq_two (l : Evt) {e : Evt} (h : isOff e = true) : opEqD (.tuple (twoE l)) (.tuple (twoE e)) = some (.d (.bool (mergeE l e).isSome)) := by
  have hs : opEqD (.tuple (twoE l)) (.tuple (twoE e)) = some (.d (.bool (PyData.eqv (.tuple (twoE l)) (.tuple (twoE e))))) := if_pos ⟨two_shaped l, two_shaped e⟩
  rw [hs]
  congr 3
  cases e <;> cases h <;> cases l <;> simp only [twoE, PyData.eqv, PyData.eqvAll, mergeE, Option.isSome_none, ev_7, ev_8, ev_9, Bool.false_and]
  all_goals (split <;> simp_all)
theorem ne_nilE (f : List Evt) : opNeD (.list (f.map Evt.dat)) (.list []) = some (.d (.bool (!f.isEmpty))) := by
  have hs : opNeD (.list (f.map Evt.dat)) (.list []) = some (.d (.bool (!PyData.eqv (.list (f.map Evt.dat)) (.list [])))) := if_pos ⟨evts_shaped f, evts_shaped []⟩
  rw [hs]
  cases f <;> simp [PyData.eqv, PyData.eqvAll]
theorem ix_lastE (g : List Evt) (l : Evt) : opIxL (.list ((g ++ [l]).map Evt.dat)) (.int (-1)) = some (.d l.dat) := by
  show ((atI ((g ++ [l]).map Evt.dat) (-1)).map DV.d) = some (.d l.dat)
  have h : atI ((g ++ [l]).map Evt.dat) (-1) = some l.dat := by
    unfold L2.atI L2.ixN
    have h1 : (1 : Int) ≤ (g.length : Int) + 1 := by omega
    have h2 : (-1 + ((g.length : Int) + 1)).toNat = g.length := by omega
    simp [h1, h2]
  rw [h]
  rfl
/-- one if of the putting together: of the kinds p -/
def tryM (p : Evt → Bool) (f : List Evt) (e : Evt) : List Evt × Evt := match f.getLast? with
  | some l => if p e = true then (match mergeE l e with | some x => (f.dropLast, x) | none => (f, e)) else (f, e)
  | none => (f, e)
theorem tryM_nil (p : Evt → Bool) (e : Evt) : tryM p [] e = ([], e) := rfl
theorem tryM_not {p : Evt → Bool} (f : List Evt) {e : Evt} (h : p e = false) : tryM p f e = (f, e) := by
  unfold tryM
  cases f.getLast? <;> simp [h]
theorem tryM_no {p : Evt → Bool} (g : List Evt) {l e : Evt} (h : mergeE l e = none) : tryM p (g ++ [l]) e = (g ++ [l], e) := by
  unfold tryM
  rw [List.getLast?_append]
  simp [h]
theorem tryM_yes {p : Evt → Bool} (g : List Evt) {l e x : Evt} (hp : p e = true) (h : mergeE l e = some x) : tryM p (g ++ [l]) e = (g, x) := by
  unfold tryM
  rw [List.getLast?_append]
  simp [h, hp]
theorem join_none {g : List Evt} {l e : Evt} (h : mergeE l e = none) : joinS (g ++ [l]) e = g ++ [l] ++ [e] := by
  unfold joinS
  rw [List.getLast?_append]
  simp [h]
theorem join_some {g : List Evt} {l e x : Evt} (h : mergeE l e = some x) : joinS (g ++ [l]) e = g ++ [x] := by
  unfold joinS
  rw [List.getLast?_append]
  simp [h]
theorem merge_TL {l e x : Evt} (h : mergeE l e = some x) : isTL e = true ∧ isTL x = true ∨ isOff e = true ∧ isOff x = true := by
  cases l <;> cases e <;> simp only [mergeE, reduceCtorEq] at h <;> split at h <;> cases h <;> simp [isTL, isOff]
theorem TL_off {e : Evt} (h : isTL e = true) : isOff e = false := by cases e <;> simp_all [isTL, isOff]
theorem off_TL {e : Evt} (h : isOff e = true) : isTL e = false := by cases e <;> simp_all [isTL, isOff]
theorem join_try (f : List Evt) (e : Evt) : joinS f e = (tryM isOff (tryM isTL f e).1 (tryM isTL f e).2).1 ++ [(tryM isOff (tryM isTL f e).1 (tryM isTL f e).2).2] := by
  rcases List.eq_nil_or_concat f with rfl | ⟨g, l, rfl⟩
  · rfl
  rw [List.concat_eq_append]
  cases h : mergeE l e with
  | none => rw [tryM_no g h, tryM_no g h, join_none h]
  | some x =>
    rw [join_some h]
    rcases merge_TL h with ⟨h1, h2⟩ | ⟨h1, h2⟩
    · rw [tryM_yes g h1 h, tryM_not g (TL_off h2)]
    · rw [tryM_not _ (off_TL h1), tryM_yes g h1 h]
theorem tryM_len (p : Evt → Bool) (f : List Evt) (e : Evt) : (tryM p f e).1.length ≤ f.length := by
  unfold tryM
  cases f.getLast? with
  | none => exact Nat.le_refl _
  | some l =>
    dsimp only
    split
    · cases mergeE l e with
      | none => exact Nat.le_refl _
      | some x => dsimp only; simp
    · exact Nat.le_refl _
theorem joinS_len (f : List Evt) (e : Evt) : (joinS f e).length ≤ f.length + 1 := by
  rw [join_try, List.length_append]
  have h1 := tryM_len isOff (tryM isTL f e).1 (tryM isTL f e).2
  have h2 := tryM_len isTL f e
  simp only [List.length_cons, List.length_nil]
  omega
theorem foldJ_len (es : List Evt) : ∀ f : List Evt, (es.foldl joinS f).length ≤ f.length + es.length := by
  induction es with
  | nil => intro f; simp
  | cons e es ih =>
    intro f
    have := ih (joinS f e)
    have := joinS_len f e
    simp only [List.foldl_cons, List.length_cons]
    omega
def if1 : DS := dIfS
  (dPkT (dAnd (dTest (dBin opNeD (dV 1) (dLst dNil))) (dAnd (dTest (dBin (opInT false) (dBin opIxT (dV 2) (dC (PyData.int 0))) (dTup (dCons (dC (PyData.str (Str.ofString "trade"))) (dCons (dC (PyData.str (Str.ofString "less"))) dNil)))))
    (dTest (dBin opEqD (dSl opSlT (dBin opIxL (dV 1) (dUn opNeg (dC (PyData.int 1)))) dONone (dOSome (dUn opNeg (dC (PyData.int 1))))) (dSl opSlT (dV 2) dONone (dOSome (dUn opNeg (dC (PyData.int 1))))))))))
  (dSetX 2 (xOp opCatT (dSl opSlT (dV 2) dONone (dOSome (dUn opNeg (dC (PyData.int 1))))) (xTup (xOp opAdd (dBin opIxT (dV 2) (dUn opNeg (dC (PyData.int 1)))) (xIx opIxT (xPop 1) (dUn opNeg (dC (PyData.int 1))))) dNil)))
  dNext
def if2 : DS := dIfS
  (dPkT (dAnd (dTest (dBin opNeD (dV 1) (dLst dNil))) (dAnd (dTest (dBin opEq (dBin opIxT (dV 2) (dC (PyData.int 0))) (dC (PyData.str (Str.ofString "off")))))
    (dTest (dBin opEqD (dSl opSlT (dBin opIxL (dV 1) (dUn opNeg (dC (PyData.int 1)))) dONone (dOSome (dC (PyData.int 2)))) (dSl opSlT (dV 2) dONone (dOSome (dC (PyData.int 2)))))))))
  (dSetX 2 (xOp opCatT (dSl opSlT (dV 2) dONone (dOSome (dC (PyData.int 2)))) (xTup (xOp opAdd (dBin opIxT (dV 2) (dC (PyData.int 2))) (xIx opIxT (xPop 1) (dC (PyData.int 2)))) (dCons (dBin opIxT (dV 2) (dC (PyData.int 3))) dNil))))
  dNext
local macro_rules | `(tactic| walk_at "d") => `(tactic| first | refine ⟨_, ne_nilE _, ?_⟩ | refine Or.inl ⟨_, rfl, ?_⟩ | refine Or.inr ⟨rfl, ?_⟩ | refine ⟨Nat.le_of_ble_eq_true rfl, ?_⟩ | refine ⟨⟨_, rfl⟩, ?_⟩ | refine ⟨_, rfl, ?_⟩ | refine ⟨_, _, rfl, ?_⟩ | refine ⟨_, _, _, rfl, ?_⟩ | refine ⟨_, _, _, _, rfl, ?_⟩)
def tlT : PyData := .tuple [.str "trade", .str "less"]
theorem in_1 : opInT false (.str "trade") tlT = some (.d (.bool true)) := by kernel_rfl
theorem in_2 : opInT false (.str "less") tlT = some (.d (.bool true)) := by kernel_rfl
theorem in_3 : opInT false (.str "shown") tlT = some (.d (.bool false)) := by kernel_rfl
theorem in_4 : opInT false (.str "off") tlT = some (.d (.bool false)) := by kernel_rfl
theorem ifT {c : Prop} [Decidable c] {a b : Prop} (h : c) (k : a) : if c then a else b := by rw [if_pos h]; exact k
theorem ifN {c : Prop} [Decidable c] {a b : Prop} (h : ¬ c) (k : b) : if c then a else b := by rw [if_neg h]; exact k
theorem if1_ok {E : DE} {a : PyData} {n : Int} (f : List Evt) (e : Evt) (h : E.nx [.d a, .own ((tryM isTL f e).1.map Evt.dat), .d (tryM isTL f e).2.dat] n) : if1 E [.d a, .own (f.map Evt.dat), .d e.dat] n := by
  rcases List.eq_nil_or_concat f with rfl | ⟨g, l, rfl⟩
  · repeat walk_at "d"
    exact h
  rw [List.concat_eq_append] at *
  unfold if1
  repeat walk_at "d"
  refine ifT (by simp) ?_
  cases e with
  | shown m q => repeat first | refine ⟨_, in_3, ?_⟩ | walk_at "d"
                 rw [tryM_not _ rfl] at h
                 exact h
  | off m q => repeat first | refine ⟨_, in_4, ?_⟩ | walk_at "d"
               rw [tryM_not _ rfl] at h
               exact h
  | trade b s p q =>
    repeat first | refine ⟨_, in_1, ?_⟩ | refine ⟨_, ix_lastE _ _, ?_⟩ | refine ⟨_, head_cut _, ?_⟩ | refine ⟨_, eq_head _ (e := .trade b s p q) rfl, ?_⟩ | walk_at "d"
    cases hm : mergeE l (.trade b s p q) with
    | none =>
      rw [tryM_no g hm] at h
      exact h
    | some x =>
      rw [tryM_yes g rfl hm] at h
      cases l <;> simp only [mergeE, reduceCtorEq] at hm
      split at hm <;> cases hm
      rename_i hq
      obtain ⟨rfl, rfl, rfl⟩ := hq
      refine ifT rfl ?_
      rw [List.map_append]
      repeat walk_at "d"
      exact h
  | less r c q =>
    repeat first | refine ⟨_, in_2, ?_⟩ | refine ⟨_, ix_lastE _ _, ?_⟩ | refine ⟨_, head_cut _, ?_⟩ | refine ⟨_, eq_head _ (e := .less r c q) rfl, ?_⟩ | walk_at "d"
    cases hm : mergeE l (.less r c q) with
    | none =>
      rw [tryM_no g hm] at h
      exact h
    | some x =>
      rw [tryM_yes g rfl hm] at h
      cases l <;> simp only [mergeE, reduceCtorEq] at hm
      split at hm <;> cases hm
      rename_i hq
      obtain ⟨rfl, rfl⟩ := hq
      refine ifT rfl ?_
      rw [List.map_append]
      repeat walk_at "d"
      exact h
theorem if2_ok {E : DE} {a : PyData} {n : Int} (f : List Evt) (e : Evt) (h : E.nx [.d a, .own ((tryM isOff f e).1.map Evt.dat), .d (tryM isOff f e).2.dat] n) : if2 E [.d a, .own (f.map Evt.dat), .d e.dat] n := by
  rcases List.eq_nil_or_concat f with rfl | ⟨g, l, rfl⟩
  · repeat walk_at "d"
    exact h
  rw [List.concat_eq_append] at *
  unfold if2
  repeat walk_at "d"
  refine ifT (by simp) ?_
  cases e with
  | shown m q => repeat walk_at "d"
                 rw [tryM_not _ rfl] at h
                 exact h
  | trade m q => repeat walk_at "d"
                 rw [tryM_not _ rfl] at h
                 exact h
  | less m q => repeat walk_at "d"
                rw [tryM_not _ rfl] at h
                exact h
  | off m q =>
    repeat first | refine ⟨_, ix_lastE _ _, ?_⟩ | refine ⟨_, two_cut _, ?_⟩ | refine ⟨_, eq_two _ (e := .off m q) rfl, ?_⟩ | walk_at "d"
    cases hm : mergeE l (.off m q) with
    | none =>
      rw [tryM_no g hm] at h
      exact h
    | some x =>
      rw [tryM_yes g rfl hm] at h
      cases l <;> simp only [mergeE, reduceCtorEq] at hm
      split at hm <;> cases hm
      rename_i hq
      obtain rfl := hq
      refine ifT rfl ?_
      rw [List.map_append]
      repeat walk_at "d"
      exact h

end
section
variable [Fam] [Tabz] {P : Program} {w : World} {K : PySem.W.Frag} {mg : Str → Option Value} {base : Heap}
theorem rows_layR : ∀ {rs : List Row}, (∀ r ∈ rs, RowOk r) → PyData.canLayAll0 (rs.map Row.dat) = true
  | [], _ => rfl
  | r :: rs, h => by
    show (PyData.canLay0 r.dat && PyData.canLayAll0 (rs.map Row.dat)) = true
    have h1 := h r List.mem_cons_self
    rw [Row.lay h1.2.2.2.2.2.1 h1.2.2.2.2.2.2, rows_layR fun x hx => h x (List.mem_cons_of_mem _ hx)]
    rfl
theorem res_shaped {es : List Evt} {rs : List Row} (h : ∀ r ∈ rs, RowOk r) (l k : Int) (b : Bool) : SeqAt.shaped (.tuple [dEvts es, dRows rs, .int l, .bool b, .int k]) = true := by
  have d1 := evts_depth es
  have d2 := rows_depth rs
  unfold SeqAt.shaped
  have e : (PyData.tuple [dEvts es, dRows rs, .int l, .bool b, .int k]).canLay0 = true := by
    simp only [dEvts, dRows, PyData.canLay0, PyData.canLayAll0, evts_lay, rows_layR h]
    rfl
  rw [e, Bool.true_and]
  refine decide_eq_true ?_
  simp only [dEvts, dRows, PyData.depth, PyData.depthAll]
  omega

end
/-! ### the family of purses -/
instance famP : Fam where
  Tq := fun _ t H n => ∀ a, t = .ref a → Pu H a n
  Pq := fun _ t a => t = .ref a
  mv := fun g k a e => by
    obtain ⟨o, s, c, h, r⟩ := g a e
    exact ⟨o, s, c, k _ _ e h, r⟩
  ty := fun g e => by
    obtain ⟨o, s, c, h, r⟩ := g _ e
    exact ⟨_, h⟩

section
variable {P : Program} {w : World} {K : PySem.W.Frag} {mg : Str → Option Value} {base : Heap}
abbrev s_law_purse : Stmt := topS 25
theorem sc_law_purse : FnScope ["script", "k", "cell", "own"] ["script", "k"] (defScope s_law_purse) := ⟨rfl, rfl, rfl, by decide +kernel, rfl, by decide +kernel, by decide +kernel⟩
theorem ok_purse {f : Addr} {fd : FuncData} (F : Fun K "_law_purse" "_law_purse" s_law_purse f fd) (T : Txt mg) : FnOk P w K mg base CX0 1 f fd ["script", "k"] (spPurse K) := by
  refine F.ok sc_law_purse (fun vs H Q E h => ?_) (fun cdv A outer s H vs Q E hr h => ?_)
  · obtain ⟨a, ns, k, rfl, _⟩ := h
    rfl
  · obtain ⟨a, ns, k, rfl, hS, hlen, hk0, hk1, q⟩ := h
    refine ⟨_, (pss_cons (ps_set (i := 2) sc_law_purse.nd rfl (Or.inl rfl) (pe_op op_add (pe_op op_mul pe_int (pv 1)) pe_int))
          (pss_cons (ps_if (pt_cmpR op_lt (pv 1) (pe_callB call_len_seq (by rfl) T.b_len PySem.boot_len (pa_cons (pv 0) pa_nil)) (nomark _)) (pss_one (ps_set (i := 2) sc_law_purse.nd rfl (Or.inl rfl) (pe_ix (r := rIxL K) ix_list (pv 0) (pv 1) (fun _ _ => rfl)))) pss_nil)
          (pss_cons (ps_set (i := 3) sc_law_purse.nd rfl (Or.inl rfl) pe_int)
          (pss_cons (ps_if (pt_cmpR op_ge (pv 2) (pe_op op_pow pe_int pe_int) (nomark _)) (pss_one (ps_set (i := 3) sc_law_purse.nd rfl (Or.inl rfl) (pe_op op_sub (pv 2) (pe_op op_pow pe_int pe_int)))) pss_nil)
          (pss_one (ps_ret (pe_lst (pa_cons (pv 3) (pa_cons (pe_op op_add (pe_op op_mod (pv 2) pe_int) (pe_op op_mul pe_int (pv 1))) (pa_cons pe_int pa_nil)))))))))), ?_⟩
    have fin : ∀ cell own : Int, 0 ≤ own → ∀ p, H p = none → Q (.ref p) (upd H p (.lst [.int own, .int (cell % 4611686018427387847 + 53 * k), .int 0])) := fun cell own ho p np =>
      q p _ np (Same.new np) ⟨own, _, 0, upd_same, ho, by omega, by omega, by omega, by omega⟩
    have tail : ∀ cell : Int, ∀ σ : St, σ = [some (.ref a), some (.int k), some (.int cell), none] → True := fun _ _ _ => trivial
    refine ⟨_, rfl, _, _, rfl, rfl, .inl ⟨by decide, by decide⟩, _, _, rfl, rfl, ?_⟩
    refine ⟨_, rfl, _, rfl, _, _, rfl, .inl hS, _, _, rfl, rfl, _, rfl, ite2 (fun c => ?_) (fun c => ?_)⟩
    · have c1 : k < (ns.length : Int) := by
        have c2 := of_decide_eq_true c
        rw [List.length_map] at c2
        exact c2
      have c3 : (ns.map V.int)[k.toNat]? = some (V.int (ns.getD k.toNat 0)) := by
        have c4 : k.toNat < ns.length := by omega
        rw [List.getElem?_map, List.getElem?_eq_getElem c4, List.getD_eq_getElem?_getD, List.getElem?_eq_getElem c4]
        rfl
      have c5 : atI (ns.map V.int) k = some (V.int (ns.getD k.toNat 0)) := by
        have c6 := atI_nat c3
        rw [Int.toNat_of_nonneg hk0] at c6
        exact c6
      refine ⟨_, rfl, _, rfl, a, _, _, _, rfl, rfl, hS, c5, ?_⟩
      refine ⟨_, rfl, _, _, rfl, rfl, ⟨by decide, by decide, by decide⟩, _, _, rfl, rfl, _, rfl, ite2 (fun d => ?_) (fun d => ?_)⟩
      · refine ⟨_, rfl, _, _, rfl, rfl, ⟨by decide, by decide, by decide⟩, _, _, rfl, rfl, ?_⟩
        refine ⟨_, rfl, _, rfl, _, _, rfl, rfl, (by show (0 : Int) < 4611686018427387847; decide), _, rfl, _, _, rfl, rfl, .inl ⟨by decide, by decide⟩, _, _, rfl, rfl, (by show 3 ≤ sizeLine; decide), fun p np => fin _ _ ?_ p np⟩
        have d1 := of_decide_eq_true d
        exact Int.sub_nonneg_of_le d1
      · refine ⟨_, rfl, _, rfl, _, _, rfl, rfl, (by show (0 : Int) < 4611686018427387847; decide), _, rfl, _, _, rfl, rfl, .inl ⟨by decide, by decide⟩, _, _, rfl, rfl, (by show 3 ≤ sizeLine; decide), fun p np => fin _ _ (by decide) p np⟩
    · refine ⟨_, rfl, _, _, rfl, rfl, ⟨by decide, by decide, by decide⟩, _, _, rfl, rfl, _, rfl, ite2 (fun d => ?_) (fun d => ?_)⟩
      · refine ⟨_, rfl, _, _, rfl, rfl, ⟨by decide, by decide, by decide⟩, _, _, rfl, rfl, ?_⟩
        refine ⟨_, rfl, _, rfl, _, _, rfl, rfl, (by show (0 : Int) < 4611686018427387847; decide), _, rfl, _, _, rfl, rfl, .inl ⟨by decide, by decide⟩, _, _, rfl, rfl, (by show 3 ≤ sizeLine; decide), fun p np => fin _ _ ?_ p np⟩
        have d1 := of_decide_eq_true d
        exact Int.sub_nonneg_of_le d1
      · refine ⟨_, rfl, _, rfl, _, _, rfl, rfl, (by show (0 : Int) < 4611686018427387847; decide), _, rfl, _, _, rfl, rfl, .inl ⟨by decide, by decide⟩, _, _, rfl, rfl, (by show 3 ≤ sizeLine; decide), fun p np => fin _ _ (by decide) p np⟩
abbrev s_law_coin : Stmt := topS 26
theorem sc_law_coin : FnScope ["purse", "many", "digit", "primes", "prime", "one", "two"] ["purse", "many"] (defScope s_law_coin) := ⟨rfl, rfl, rfl, by decide +kernel, rfl, by decide +kernel, by decide +kernel⟩
theorem ok_coin {f : Addr} {fd : FuncData} (F : Fun K "_law_coin" "_law_coin" s_law_coin f fd) : FnOk P w K mg base CX0 1 f fd ["purse", "many"] spCoin := by
  refine F.ok sc_law_coin (fun vs H Q E h => ?_) (fun cdv A outer s H vs Q E hr h => ?_)
  · obtain ⟨p, many, n, rfl, _⟩ := h
    rfl
  · obtain ⟨p, many, n, rfl, ⟨own, seed, cnt, hp, h1, h2, h3, h4, h5⟩, hn, hm1, hm2, k⟩ := h
    have m0 : (0 : Int) < many := by omega
    have mw : CDivW own many := wide_div m0 (b := 300) (by omega) (by decide) (by decide)
    refine ⟨_, (pss_cons (ps_if (pt_cmpR op_ge (pe_ix (r := rIxL K) ix_list (pv 0) pe_int (fun _ _ => rfl)) (pv 1) (nomark _)) (pss_cons (ps_set (i := 2) sc_law_coin.nd rfl (Or.inl rfl) (pe_op op_mod (pe_ix (r := rIxL K) ix_list (pv 0) pe_int (fun _ _ => rfl)) (pv 1)))
            (pss_cons (ps_asg (pe_op op_fdivW (pe_ix (r := rIxL K) ix_list (pv 0) pe_int (fun _ _ => rfl)) (pv 1)) (pg_sub (pv 0) pe_int set_list))
            (pss_one (ps_ret (pv 2))))) pss_nil)
          (pss_cons (ps_asg (pe_op op_add (pe_ix (r := rIxL K) ix_list (pv 0) pe_int (fun _ _ => rfl)) pe_int) (pg_sub (pv 0) pe_int set_list))
          (pss_cons (ps_set (i := 3) sc_law_coin.nd rfl (Or.inl rfl) (pe_lst (pa_cons pe_int (pa_cons pe_int (pa_cons pe_int (pa_cons pe_int (pa_cons pe_int (pa_cons pe_int (pa_cons pe_int (pa_cons pe_int pa_nil))))))))))
          (pss_cons (ps_set (i := 4) sc_law_coin.nd rfl (Or.inl rfl) (pe_ix (r := rIxL K) ix_list (pv 3) (pe_op op_mod (pe_ix (r := rIxL K) ix_list (pv 0) pe_int (fun _ _ => rfl)) pe_int) (fun _ _ => rfl)))
          (pss_cons (ps_set (i := 5) sc_law_coin.nd rfl (Or.inl rfl) (pe_op op_add (pe_op op_mul (pe_op op_mod (pe_ix (r := rIxL K) ix_list (pv 0) pe_int (fun _ _ => rfl)) (pv 4)) (pe_op op_add (pe_op op_mul pe_int (pe_ix (r := rIxL K) ix_list (pv 0) pe_int (fun _ _ => rfl))) pe_int)) (pe_op op_mul pe_int (pe_ix (r := rIxL K) ix_list (pv 0) pe_int (fun _ _ => rfl)))))
          (pss_cons (ps_set (i := 5) sc_law_coin.nd rfl (Or.inl rfl) (pe_op op_mod (pe_op op_pow (pv 5) pe_int) (pv 4)))
          (pss_cons (ps_set (i := 6) sc_law_coin.nd rfl (Or.inl rfl) (pe_op op_add (pe_op op_add (pe_op op_mul (pv 5) (pv 5)) (pe_op op_mod (pe_ix (r := rIxL K) ix_list (pv 0) pe_int (fun _ _ => rfl)) pe_int)) (pe_ix (r := rIxL K) ix_list (pv 0) pe_int (fun _ _ => rfl))))
          (pss_one (ps_ret (pe_op op_mod (pe_op op_fdivW (pe_op op_mod (pe_op op_pow (pv 6) pe_int) (pe_ix (r := rIxL K) ix_list (pv 3) (pe_op op_mod (pe_op op_add (pe_ix (r := rIxL K) ix_list (pv 0) pe_int (fun _ _ => rfl)) pe_int) pe_int) (fun _ _ => rfl))) pe_int) (pv 1))))))))))), ?_⟩
    refine ⟨_, rfl, p, _, _, _, rfl, rfl, SqL.of hp, rfl, _, rfl, _, _, rfl, rfl, _, rfl, ite2 (fun c => ?_) (fun c => ?_)⟩
    · refine ⟨_, rfl, p, _, _, _, rfl, rfl, SqL.of hp, rfl, _, rfl, _, _, rfl, rfl, m0, ?_⟩
      refine ⟨_, rfl, p, _, _, _, rfl, rfl, SqL.of hp, rfl, _, rfl, _, _, rfl, rfl, mw, _, rfl, p, _, _, 0, rfl, rfl, hp, rfl, ?_⟩
      refine ⟨_, rfl, ?_⟩
      exact k _ _ (Int.emod_nonneg _ (by omega)) (Int.emod_lt_of_pos _ m0) ⟨own / many, seed, cnt, upd_same, Int.ediv_nonneg h1 (by omega), h2, h3, h4, by omega⟩ (fun b o nb hb => by rw [upd_ne nb]; exact hb)
    · -- purse[2] = purse[2] + 1
      refine ⟨_, rfl, p, _, _, _, rfl, rfl, SqL.of hp, rfl, _, _, rfl, rfl, _, rfl, p, _, _, 2, rfl, rfl, hp, rfl, ?_⟩
      obtain ⟨H1, e1⟩ : ∃ H1, H1 = upd H p (.lst [.int own, .int seed, .int (cnt + 1)]) := ⟨_, rfl⟩
      have p1 : H1 p = some (.lst [.int own, .int seed, .int (cnt + 1)]) := by rw [e1]; exact upd_same
      have k1 : Keep p H H1 := fun b o nb hb => by rw [e1, upd_ne nb]; exact hb
      show tSeq _ _ _ _ (upd H p (.lst [.int own, .int seed, .int (cnt + 1)]))
      rw [← e1]
      clear e1
      refine ⟨(by show 8 ≤ sizeLine; decide), fun q nq => ?_⟩
      obtain ⟨H2, e2⟩ : ∃ H2, H2 = upd H1 q (.lst primesL) := ⟨_, rfl⟩
      have q2 : H2 q = some (.lst primesL) := by rw [e2]; exact upd_same
      have s2 : Same H1 H2 := by rw [e2]; exact Same.new nq
      have p2 := s2 _ _ p1
      show tSeq _ _ _ _ (upd H1 q (.lst primesL))
      rw [← e2]
      clear e2
      obtain ⟨pr, a1, a2, a3⟩ := prime_at (i := (cnt + 1) % 8) (by omega) (by omega)
      obtain ⟨pr', b1, b2, b3⟩ := prime_at (i := (cnt + 1 + 3) % 8) (by omega) (by omega)
      have pr0 : (0 : Int) < pr := by omega
      have pr0' : (0 : Int) < pr' := by omega
      refine ⟨_, rfl, _, rfl, p, _, _, _, rfl, rfl, SqL.of p2, rfl, _, _, rfl, rfl, (by show (0 : Int) < 8; decide), q, _, _, _, rfl, rfl, SqL.of q2, a1, ?_⟩
      have x1 : 0 ≤ seed % pr := Int.emod_nonneg _ (by omega)
      have x2 : seed % pr < pr := Int.emod_lt_of_pos _ pr0
      refine ⟨_, rfl, p, _, _, _, rfl, rfl, SqL.of p2, rfl, _, rfl, _, _, rfl, rfl, pr0, _, rfl, p, _, _, _, rfl, rfl, SqL.of p2, rfl, _, _, rfl, rfl, .inl ⟨by decide, by decide⟩, _, _, rfl, rfl, _, _, rfl, rfl, .inl ⟨by omega, by omega⟩, _, rfl, p, _, _, _, rfl, rfl, SqL.of p2, rfl, _, _, rfl, rfl, .inl ⟨by decide, by decide⟩, _, _, rfl, rfl, ?_⟩
      have y1 : 0 ≤ seed % pr * (2 * (cnt + 1) + 5) := Int.mul_nonneg x1 (by omega)
      have y2 : seed % pr * (2 * (cnt + 1) + 5) ≤ 2147483489 * (2 * (cnt + 1) + 5) := Int.mul_le_mul_of_nonneg_right (by omega) (by omega)
      have z1 : 0 ≤ seed % pr * (2 * (cnt + 1) + 5) + 6007 * (cnt + 1) := by omega
      have z2 : seed % pr * (2 * (cnt + 1) + 5) + 6007 * (cnt + 1) < 2 ^ 64 := by omega
      have z3 : (seed % pr * (2 * (cnt + 1) + 5) + 6007 * (cnt + 1)).natAbs < 2 ^ 64 := by omega
      refine ⟨_, rfl, _, _, rfl, rfl, ⟨by decide, by decide, z3⟩, _, rfl, _, _, rfl, rfl, pr0, ?_⟩
      obtain ⟨one2, e2⟩ : ∃ one2, one2 = (seed % pr * (2 * (cnt + 1) + 5) + 6007 * (cnt + 1)) ^ (3 : Int).toNat % pr := ⟨_, rfl⟩
      have w1 : 0 ≤ one2 := e2 ▸ Int.emod_nonneg _ (by omega)
      have w2 : one2 < pr := e2 ▸ Int.emod_lt_of_pos _ pr0
      show tSeq _ _ _ [some (.ref p), some (.int many), none, some (.ref q), some (.int pr), some (.int ((seed % pr * (2 * (cnt + 1) + 5) + 6007 * (cnt + 1)) ^ (3 : Int).toNat % pr)), none] H2
      rw [← e2]
      clear e2
      refine ⟨_, rfl, _, rfl, _, _, rfl, rfl, .inl ⟨by omega, by omega⟩, _, rfl, p, _, _, _, rfl, rfl, SqL.of p2, rfl, _, _, rfl, rfl, (by show (0 : Int) < 1000033; decide), _, _, rfl, rfl, _, rfl, p, _, _, _, rfl, rfl, SqL.of p2, rfl, _, _, rfl, rfl, ?_⟩
      have v1 : 0 ≤ one2 * one2 := Int.mul_nonneg w1 w1
      have v2 : one2 * one2 ≤ 2147483489 * one2 := Int.mul_le_mul_of_nonneg_right (by omega) w1
      have t3 : (one2 * one2 + seed % 1000033 + (cnt + 1)).natAbs < 2 ^ 64 := by omega
      refine ⟨_, rfl, _, _, rfl, rfl, ⟨by decide, by decide, t3⟩, _, rfl, _, rfl, p, _, _, _, rfl, rfl, SqL.of p2, rfl, _, _, rfl, rfl, _, _, rfl, rfl, (by show (0 : Int) < 8; decide), q, _, _, _, rfl, rfl, SqL.of q2, b1, _, _, rfl, rfl, pr0', _, _, rfl, rfl, wide_div (b := 4) (by decide) (by decide) (by decide) (by decide), _, rfl, _, _, rfl, rfl, m0, ?_⟩
      exact k _ _ (Int.emod_nonneg _ (by omega)) (Int.emod_lt_of_pos _ m0) ⟨own, seed, cnt + 1, p2, h1, h2, h3, by omega, by omega⟩ (k1.trans (Keep.same s2))

/-! ### names -/
def lettersS : Str := "abcdefghijklmnopqrstuvwxyz"
theorem letters_cps : lettersS.cps.toList = List.range' 97 26 := by decide +kernel
theorem letters_len : lettersS.length ≤ sizeLine := by
  have h : lettersS.length = 26 := by decide +kernel
  rw [h]
  decide
theorem letter_at {i : Int} (h0 : 0 ≤ i) (h : i < 26) : atI lettersS.cps.toList i = some (97 + i.toNat) := by
  rw [letters_cps]
  have e : (List.range' 97 26)[i.toNat]? = some (97 + i.toNat) := by
    rw [List.getElem?_range' (by omega), Nat.one_mul]
  have k := atI_nat e
  rw [Int.toNat_of_nonneg h0] at k
  exact k
def Letters (s : Str) : Prop := ∀ c ∈ s.cps.toList, 97 ≤ c ∧ c ≤ 122
def NameS (s : Str) : Prop := 1 ≤ s.length ∧ s.length ≤ 8 ∧ Letters s
theorem Str_len (s : Str) : s.length = s.cps.toList.length := by
  show s.cps.size = _
  rw [Array.length_toList]
theorem joinL_nil : ∀ ps : List (List Nat), TL.joinL [] ps = ps.flatten
  | [] => rfl
  | [p] => by simp [TL.joinL]
  | p :: q :: r => by
    have h := joinL_nil (q :: r)
    show p ++ ([] ++ TL.joinL [] (q :: r)) = _
    rw [h]
    rfl
theorem join_tl (ys : List Str) : (Txt.join "" ys).cps.toList = (ys.map fun s => s.cps.toList).flatten := by
  have e : TL.tl (Txt.join "" ys) = TL.joinL (TL.tl "") (ys.map TL.tl) := by
    rw [TL.join_eq, TL.tl_join]
  have e2 : TL.tl ("" : Str) = [] := by decide +kernel
  rw [e2, joinL_nil] at e
  exact e
theorem flat_len : ∀ ys : List Str, (∀ s ∈ ys, s.length = 1) → (ys.map fun s => s.cps.toList).flatten.length = ys.length
  | [], _ => rfl
  | y :: ys, h => by
    have h1 := h y List.mem_cons_self
    have h2 := flat_len ys fun s hs => h s (List.mem_cons_of_mem _ hs)
    rw [Str_len] at h1
    show (y.cps.toList ++ _).length = _
    rw [List.length_append, h1, h2, List.length_cons]
    omega
theorem join_len {ys : List Str} (h : ∀ s ∈ ys, s.length = 1) : (Txt.join "" ys).length = ys.length := by
  rw [Str_len, join_tl, flat_len ys h]
theorem join_letters {ys : List Str} (h : ∀ s ∈ ys, Letters s) : Letters (Txt.join "" ys) := fun c hc => by
  rw [join_tl] at hc
  obtain ⟨l, hl, hcl⟩ := List.mem_flatten.mp hc
  obtain ⟨s, hs, rfl⟩ := List.mem_map.mp hl
  exact h s hs c hcl
theorem sum_ones : ∀ ys : List Str, (∀ s ∈ ys, s.length = 1) → (ys.map (·.length)).sum = ys.length
  | [], _ => rfl
  | y :: ys, h => by
    have h1 := h y List.mem_cons_self
    have h2 := sum_ones ys fun s hs => h s (List.mem_cons_of_mem _ hs)
    show y.length + (ys.map (·.length)).sum = _
    rw [h1, h2, List.length_cons]
    omega
theorem sign_len (c : Nat) : (⟨#[c]⟩ : Str).length = 1 := rfl
theorem sign_letters {c : Nat} (h1 : 97 ≤ c) (h2 : c ≤ 122) : Letters ⟨#[c]⟩ := fun d hd => by
  have e : d = c := by simpa using hd
  omega
theorem name_mk {s : Str} {c : Nat} (h1 : s.length ≤ 7) (h2 : Letters s) (h3 : 97 ≤ c) (h4 : c ≤ 122) : NameS (s ++ ⟨#[c]⟩) := by
  have e : (s ++ (⟨#[c]⟩ : Str)).length = s.length + 1 := by rw [Str.length_append, sign_len]
  refine ⟨by omega, by omega, fun d hd => ?_⟩
  rw [Str.cps_append, Array.toList_append, List.mem_append] at hd
  rcases hd with hd | hd
  · exact h2 d hd
  · exact sign_letters h3 h4 d hd
theorem small_size {n : Nat} (h : n ≤ 100000) : n ≤ sizeLine := Nat.le_trans h (by decide)
def spNames : Sp := fun vs H Q _ => ∃ (p : Addr) (many n : Int), vs = [.ref p, .int many] ∧ Pu H p n ∧ 0 ≤ many ∧ many ≤ 1000 ∧ n + 9 * many < 2 ^ 30 ∧
  ∀ (q : Addr) (ns : List Str) (H' : Hp), H q = none → (ns.length : Int) = many → (∀ s ∈ ns, NameS s) → H' q = some (.lst (ns.map V.str)) → Pu H' p (n + 9 * many) → Keep p H H' → Q (.ref q) H'
abbrev s_law_names : Stmt := topS 27
theorem sc_law_names : FnScope ["purse", "many", "letters", "found", "at", "word", "turn"] ["purse", "many"] (defScope s_law_names) := ⟨rfl, rfl, rfl, by decide +kernel, rfl, by decide +kernel, by decide +kernel⟩
theorem ok_names {f : Addr} {fd : FuncData} (F : Fun K "_law_names" "_law_names" s_law_names f fd) (T : Txt mg) (c_coin : Cal P w K mg base 1 "_law_coin" ["purse", "many"] spCoin) : FnOk P w K mg base CX0 2 f fd ["purse", "many"] spNames := by
  refine F.ok sc_law_names (fun vs H Q E h => ?_) (fun cdv A outer s H vs Q E hr h => ?_)
  · obtain ⟨p, many, n, rfl, _⟩ := h
    rfl
  · obtain ⟨p, many, n, rfl, u, hm0, hm1, hn, k⟩ := h
    obtain ⟨f_coin, fd_coin, G_coin, m_coin, k_coin, b_coin⟩ := c_coin
    refine ⟨_, (pss_cons (ps_set (i := 2) sc_law_names.nd rfl (Or.inr rfl) pe_str)
          (pss_cons (ps_set (i := 3) sc_law_names.nd rfl (Or.inl rfl) (pe_lst pa_nil))
          (pss_cons (ps_for PassesOwn.never rfl (pi_range1 rfl T.b_range (pa_cons (pv 1) pa_nil)) (pg_name (i := 4) sc_law_names.nd rfl (Or.inl rfl))
           (pss_cons (ps_set (i := 5) sc_law_names.nd rfl (Or.inl rfl) (pe_m1 PySem.F.slot_str_join PySem.F.type_str_join mt_join pe_str (pe_lc (own := [("turn", 6)]) (g := gName 6) (tt := tYes) rfl sc_law_names.nd (pi_range1 rfl T.b_range (pa_cons (pe_call G_coin (hr.mono (by decide)) rfl m_coin k_coin b_coin .nil pass0 (pa_cons (pv 0) (pa_cons pe_int pa_nil))) pa_nil)) (blkOk_by (N := ["purse", "many", "letters", "found", "at", "word", "turn"]) (sc := defScope s_law_names) (by decide +kernel)) (fun _ _ _ _ _ => (pg_name (i := 6) sc_law_names.nd rfl (Or.inl rfl))) (fun _ _ _ _ _ => pts_nil) (fun _ _ _ _ _ => (pe_ix ix_str (pv 2) (pe_call G_coin (hr.mono (by decide)) rfl m_coin k_coin b_coin .nil pass0 (pa_cons (pv 0) (pa_cons pe_int pa_nil))) (fun _ _ => rfl))))))
            (pss_one (ps_expr (pe_bm PySem.F.plainAttrs_list PySem.F.slot_list_append PySem.F.type_list_append mt_append (pv 3) (pa_cons (pe_op op_add_str (pv 5) (pe_ix ix_str (pv 2) (pe_op op_mod (pe_op op_add (pv 4) (pe_op op_mul (pe_call G_coin (hr.mono (by decide)) rfl m_coin k_coin b_coin .nil pass0 (pa_cons (pv 0) (pa_cons pe_int pa_nil))) pe_int)) pe_int) (fun _ _ => rfl))) pa_nil))))))
          (pss_one (ps_ret (pv 3)))))), ?_⟩
    refine ⟨Nat.zero_le _, fun q nq => ?_⟩
    have pq : p ≠ q := by
      obtain ⟨_, _, _, e, _⟩ := u
      exact ne_of_none e nq
    have kq : Keep p H (upd H q (.lst [])) := Keep.same (Same.new nq)
    refine ⟨_, rfl, _, rfl, by omega, by omega, for_range (lo := 0) (fun i σ h => ∃ (ns : List Str) (v4 v5 v6 : Option V), σ = [some (.ref p), some (.int many), some (.str lettersS), some (.ref q), v4, v5, v6] ∧ ns.length = i ∧ (∀ s ∈ ns, NameS s) ∧ h q = some (.lst (ns.map V.str)) ∧ Keep p H h ∧ Pu h p (n + 9 * i))
      ⟨[], _, _, _, rfl, rfl, (fun s hs => by cases hs), upd_same, kq, (u.same (Same.new nq)).mono (by omega)⟩ ?_ ?_⟩
    · rintro i σ h hi ⟨ns, v4, v5, v6, rfl, hl, hN, hq, kp, u1⟩
      have hi2 : (i : Int) < many := by
        have : i < many.toNat := hi
        omega
      refine ⟨⟨_, rfl⟩, _, rfl, p, _, _, rfl, u1, by omega, by decide, by decide, fun r h2 ra rb u2 k2 => ?_⟩
      have hq2 := k2 _ _ pq.symm hq
      refine ⟨_, rfl, by omega, by omega, fun D nD => ?_⟩
      have qD : q ≠ D := ne_of_none hq2 nD
      have pD : p ≠ D := by
        obtain ⟨_, _, _, e, _⟩ := u2
        exact ne_of_none e nD
      have kD : Keep p H (upd h2 D (.lst [])) := (kp.trans k2).trans (Keep.same (Same.new nD))
      refine lc_range (lo := 0) (fun j g => ∃ ys : List Str, ys.length = j ∧ (∀ s ∈ ys, s.length = 1) ∧ (∀ s ∈ ys, Letters s) ∧ g D = some (.lst (ys.map V.str)) ∧ g q = some (.lst (ns.map V.str)) ∧ (∀ b o, b ≠ p → b ≠ D → h2 b = some o → g b = some o) ∧ Pu g p (n + 9 * i + 1 + j))
        ⟨[], rfl, (fun s hs => by cases hs), (fun s hs => by cases hs), upd_same, (by rw [upd_ne qD]; exact hq2), (fun b o _ nb e => by rw [upd_ne nb]; exact e), (u2.same (Same.new nD)).mono (by omega)⟩ ?_ ?_
      · rintro j g hj ⟨ys, hy, hy1, hyL, hD, hq3, kp3, u3⟩
        have hj2 : (j : Int) < r := by
          have : j < r.toNat := hj
          omega
        refine ⟨rfl, yesC ⟨_, rfl, _, rfl, p, _, _, rfl, u3, by omega, by decide, by decide, fun r2 g2 r2a r2b u4 k4 => ?_⟩⟩
        have hD2 := k4 _ _ pD.symm hD
        refine ⟨lettersS, _, _, rfl, rfl, letters_len, letter_at r2a r2b, _, hD2, by rw [List.length_map]; exact Nat.lt_of_lt_of_le (show ys.length < 100 by omega) (by decide), ?_⟩
        have uD : ∀ b, b ≠ D → (upd g2 D (.lst (ys.map V.str ++ [.str ⟨#[97 + r2.toNat]⟩]))) b = g2 b := fun b nb => upd_ne nb
        refine ⟨ys ++ [⟨#[97 + r2.toNat]⟩], by rw [List.length_append, hy]; rfl, fun s hs => ?_, fun s hs => ?_, by rw [upd_same, List.map_append]; rfl, by rw [uD _ qD]; exact k4 _ _ pq.symm hq3, fun b o np nb e => by rw [uD _ nb]; exact k4 _ _ np (kp3 b o np nb e), ?_⟩
        · rcases List.mem_append.mp hs with hs | hs
          · exact hy1 s hs
          · rw [List.mem_singleton.mp hs]
            exact sign_len _
        · rcases List.mem_append.mp hs with hs | hs
          · exact hyL s hs
          · rw [List.mem_singleton.mp hs]
            exact sign_letters (by omega) (by omega)
        · obtain ⟨o1, o2, o3, e, r⟩ := u4.mono (show n + 9 * (i : Int) + 1 + j + 1 ≤ n + 9 * (i : Int) + 1 + ((j + 1 : Nat) : Int) by omega)
          exact ⟨o1, o2, o3, by rw [uD _ pD]; exact e, r⟩
      · rintro g ⟨ys, hy, hy1, hyL, hD, hq3, kp3, u3⟩
        have hy7 : ys.length ≤ 7 := by omega
        refine ⟨_, D, ys, rfl, rfl, .inl (SqL.of hD), ?_, ?_⟩
        · rw [sum_ones ys hy1]
          show ys.length + ys.length * 0 ≤ 16777216
          omega
        have wl := join_len hy1
        have wL := join_letters hyL
        refine ⟨_, rfl, .inl ⟨rfl, _, SqL.of hq3⟩, _, rfl, _, rfl, _, rfl, _, rfl, p, _, _, rfl, u3, by omega, by decide, by decide, fun r3 g3 r3a r3b u4 k4 => ?_⟩
        have hq4 := k4 _ _ pq.symm hq3
        refine ⟨_, _, rfl, rfl, .inr ⟨by decide, by decide⟩, _, _, rfl, rfl, _, _, rfl, rfl, (by show (0 : Int) < 26; decide), lettersS, _, _, rfl, rfl, letters_len, letter_at (Int.emod_nonneg _ (by decide)) (Int.emod_lt_of_pos _ (by decide)), _, _, rfl, rfl, ?_, ?_⟩
        · rw [sign_len, wl]
          exact small_size (by omega)
        refine ⟨q, _, _, rfl, rfl, hq4, by rw [List.length_map]; exact Nat.lt_of_lt_of_le (show ns.length < 2000 by omega) (by decide), ?_⟩
        have uq : ∀ b, b ≠ q → (upd g3 q (.lst (ns.map V.str ++ [.str (Txt.join "" ys ++ ⟨#[97 + ((0 + (i : Int) + r3 * 13) % 26).toNat]⟩)]))) b = g3 b := fun b nb => upd_ne nb
        refine ⟨ns ++ [Txt.join "" ys ++ ⟨#[97 + ((0 + (i : Int) + r3 * 13) % 26).toNat]⟩], _, _, _, rfl, by rw [List.length_append, hl]; rfl, fun s hs => ?_, by rw [List.map_append]; exact upd_same, fun b o nb e => ?_, ?_⟩
        · rcases List.mem_append.mp hs with hs | hs
          · exact hN s hs
          · rw [List.mem_singleton.mp hs]
            have z1 : 0 ≤ (0 + (i : Int) + r3 * 13) % 26 := Int.emod_nonneg _ (by decide)
            have z2 : (0 + (i : Int) + r3 * 13) % 26 < 26 := Int.emod_lt_of_pos _ (by decide)
            exact name_mk (by omega) wL (by omega) (by omega)
        · have e1 := kp b o nb e
          have nbq : b ≠ q := ne_of_none e nq
          rw [uq b nbq]
          exact k4 _ _ nb (kp3 b o nb (ne_of_none (k2 _ _ nb e1) nD) (k2 _ _ nb e1))
        · obtain ⟨o1, o2, o3, e, r⟩ := u4.mono (show n + 9 * (i : Int) + 1 + (r.toNat : Int) + 1 ≤ n + 9 * ((i + 1 : Nat) : Int) by omega)
          exact ⟨o1, o2, o3, by rw [uq _ pq]; exact e, r⟩
    · rintro σ h ⟨ns, v4, v5, v6, rfl, hl, hN, hq, kp, u1⟩
      refine ⟨_, rfl, ?_⟩
      have e : (many.toNat : Int) = many := Int.toNat_of_nonneg hm0
      exact k q ns h nq (by omega) hN hq (by rw [e] at u1; exact u1) kp

end
section
variable [Tabz]
local macro_rules | `(tactic| walk_at "d") => `(tactic| first | refine Or.inl ⟨_, rfl, ?_⟩ | refine Or.inr ⟨rfl, ?_⟩ | refine ⟨Nat.le_of_ble_eq_true rfl, ?_⟩ | refine ⟨⟨_, rfl⟩, ?_⟩ | refine ⟨_, rfl, ?_⟩ | refine ⟨_, _, rfl, ?_⟩ | refine ⟨_, _, _, rfl, ?_⟩ | refine ⟨_, _, _, _, rfl, ?_⟩)
/-! ### drawing by data readings -/
def mCoin : DM := fun rs n Q => ∃ many : Int, rs = [.tape, .d (.int many)] ∧ Cnd ((1 ≤ many ∧ many < 2 ^ 300) ∧ n < 2 ^ 30) ∧ ∀ r, 0 ≤ r → r < many → Q (.d (.int r)) (n + 1)
theorem L_coin : ∀ rs n Q, mCoin rs n Q → plainR rs ∧ rs.length = 2 := by
  rintro rs n Q ⟨m, rfl, h⟩
  exact tapeR (ds := [_]) rfl
/-- all but the tape's object is kept, the tape is as told -/
theorem keep_fr {c : EC} {n m : Int} {H H' : Hp} {a : Addr} (g : c.G n H) (e : c.t = .ref a) (k : Keep a H H') (u : Pu H' a m) : Fr c m H H' := by
  obtain ⟨o1, o2, o3, hx, _⟩ := g.1 a e
  refine ⟨fun b o p _ h => k b o (fun z => p (by rw [z]; exact e)) h, fun a' e' => ?_, Tabs_mv g.2 fun b o l _ h => k b o (fun z => ?_) h⟩
  · rw [e] at e'
    cases e'
    exact u
  · rw [z, hx] at h
    cases h
    exact l _ rfl
theorem coin_D {P : Program} {w : World} {K : PySem.W.Frag} {mg : Str → Option Value} {base : Heap} {k : Nat} {x : Str} {ps : List Str} (h : Cal P w K mg base k x ps spCoin) : Cal P w K mg base k x ps (spD mCoin) := by
  obtain ⟨f, fd, G, r⟩ := h
  refine ⟨f, fd, G.imp fun vs H Q E ⟨c, n, rs, Q', h0, g, pn, ok, ⟨many, e, cc, hq⟩, kk⟩ => ?_, r⟩
  subst e
  obtain ⟨hm, hn⟩ := cc.get
  cases ok with
  | cons h1 _ t => cases t with
    | cons h2 _ t =>
      cases t
      cases h2
      obtain ⟨e1, a, e2⟩ := h1
      rw [e1, e2]
      exact ⟨a, many, n, rfl, g.1 a e2, hn, hm.1, hm.2, fun r H' r0 r1 u k => kk _ _ _ _ (hq r r0 r1) (keep_fr g e2 k u) (Rp.int r)⟩
def mNames : DM := fun rs n Q => ∃ many : Int, rs = [.tape, .d (.int many)] ∧ Cnd ((0 ≤ many ∧ many ≤ 1000) ∧ n + 9 * many < 2 ^ 30) ∧ ∀ ns : List Str, (ns.length : Int) = many → (∀ s ∈ ns, PyData.strOk s = true) → Q (.own (ns.map PyData.str)) (n + 9 * many)
theorem L_names : ∀ rs n Q, mNames rs n Q → plainR rs ∧ rs.length = 2 := by
  rintro rs n Q ⟨m, rfl, h⟩
  exact tapeR (ds := [_]) rfl
theorem letters_ok {s : Str} (h : Letters s) : PyData.strOk s = true := by
  show s.cps.all (· < 0x110000) = true
  rw [← Array.all_toList, List.all_eq_true]
  intro c hc
  have := (h c hc).2
  exact decide_eq_true (by omega)
theorem names_D {P : Program} {w : World} {K : PySem.W.Frag} {mg : Str → Option Value} {base : Heap} {k : Nat} {x : Str} {ps : List Str} (h : Cal P w K mg base k x ps spNames) : Cal P w K mg base k x ps (spD mNames) := by
  obtain ⟨f, fd, G, r⟩ := h
  refine ⟨f, fd, G.imp fun vs H Q E ⟨c, n, rs, Q', h0, g, pn, ok, ⟨many, e, cc, hq⟩, kk⟩ => ?_, r⟩
  subst e
  obtain ⟨hm, hn⟩ := cc.get
  cases ok with
  | cons h1 _ t => cases t with
    | cons h2 _ t =>
      cases t
      cases h2
      obtain ⟨e1, a, e2⟩ := h1
      rw [e1, e2]
      exact ⟨a, many, n, rfl, g.1 a e2, hm.1, hm.2, hn, fun q ns H' nq hl hN hl2 u k => kk _ _ _ _ (hq ns hl fun s hs => letters_ok (hN s hs).2.2) (keep_fr g e2 k u) ⟨q, _, rfl, .of nq, hl2, rp_strs ns⟩⟩
section
variable {P : Program} {w : World} {K : PySem.W.Frag} {mg : Str → Option Value} {base : Heap}
def mLevel : DM := fun rs n Q => ∃ way : Int, rs = [.tape, .d (.int way)] ∧ Cnd ((0 ≤ way ∧ way < 4) ∧ n + 10 < 2 ^ 30) ∧ ∀ r : Int, Cnd (1 ≤ r ∧ r ≤ 10 ^ 6) → Q (.d (.int r)) (n + 1 + 1 + 1 + 1)
theorem L_level : ∀ rs n Q, mLevel rs n Q → plainR rs ∧ rs.length = 2 := by
  rintro rs n Q ⟨m, rfl, h⟩
  exact tapeR (ds := [_]) rfl
abbrev s_law_level : Stmt := topS 28
theorem sc_law_level : FnScope ["purse", "way"] ["purse", "way"] (defScope s_law_level) := ⟨rfl, rfl, rfl, by decide +kernel, rfl, by decide +kernel, by decide +kernel⟩
theorem ok_level {f : Addr} {fd : FuncData} (F : Fun K "_law_level" "_law_level" s_law_level f fd) (T : Txt mg) (c_coin : Cal P w K mg base 1 "_law_coin" ["purse", "many"] (spD mCoin)) : FnOk P w K mg base CX0 2 f fd ["purse", "way"] (spD mLevel) := by
  apply okD F sc_law_level L_level
  case body =>
    intro cdv A outer s H E hr
    obtain ⟨f_coin, fd_coin, G_coin, m_coin, k_coin, b_coin⟩ := c_coin
    exact (psOne (psRet (pdIx r2IxL ix_list (pdLst (paCons (pdOp r2Add op_add (pdC pe_int) (pdCall (fun _ _ _ q => (L_coin _ _ _ q).1) G_coin (hr.mono (by decide)) (by rfl) m_coin k_coin b_coin pass0 (paCons (pdV (pv 0)) (paCons (pdC pe_int) paNil)))) (paCons (pdOp r2Add op_add (pdC pe_int) (pdCall (fun _ _ _ q => (L_coin _ _ _ q).1) G_coin (hr.mono (by decide)) (by rfl) m_coin k_coin b_coin pass0 (paCons (pdV (pv 0)) (paCons (pdC pe_int) paNil)))) (paCons (pdOp r2Sub op_sub (pdOp r2Pow op_pow (pdC pe_int) (pdC pe_int)) (pdCall (fun _ _ _ q => (L_coin _ _ _ q).1) G_coin (hr.mono (by decide)) (by rfl) m_coin k_coin b_coin pass0 (paCons (pdV (pv 0)) (paCons (pdC pe_int) paNil)))) (paCons (pdOp r2Add op_add (pdC pe_int) (pdCall (fun _ _ _ q => (L_coin _ _ _ q).1) G_coin (hr.mono (by decide)) (by rfl) m_coin k_coin b_coin pass0 (paCons (pdV (pv 0)) (paCons (pdOp r2Pow op_pow (pdC pe_int) (pdC pe_int)) paNil)))) paNil))))) (pdV (pv 1)) (fun _ _ => rfl))))
  case data =>
    rintro rs n Q ⟨way, rfl, cc, h⟩
    obtain ⟨hw, hn⟩ := cc.get
    repeat walk_at "d"
    refine ⟨cnd ⟨by decide, by omega⟩, fun r1 r1a r1b => ?_⟩
    repeat walk_at "d"
    refine ⟨cnd ⟨by decide, by omega⟩, fun r2 r2a r2b => ?_⟩
    repeat walk_at "d"
    refine ⟨cnd ⟨by decide, by omega⟩, fun r3 r3a r3b => ?_⟩
    repeat walk_at "d"
    refine ⟨cnd ⟨by decide, by omega⟩, fun r4 r4a r4b => ?_⟩
    repeat walk_at "d"
    rcases ix4 hw.1 hw.2 with e | e | e | e <;> exact ⟨_, e, h _ (cnd (by have e9 : (10 : Int) ^ (6 : Int).toNat = 10 ^ 6 := rfl; first | omega | (rw [e9] at *; omega)))⟩
end

end
section
variable [Tabz]
local macro_rules | `(tactic| walk_at "d") => `(tactic| first | refine Or.inl ⟨_, rfl, ?_⟩ | refine Or.inr ⟨rfl, ?_⟩ | refine ⟨Nat.le_of_ble_eq_true rfl, ?_⟩ | refine ⟨⟨_, rfl⟩, ?_⟩ | refine ⟨_, rfl, ?_⟩ | refine ⟨_, _, rfl, ?_⟩ | refine ⟨_, _, _, rfl, ?_⟩ | refine ⟨_, _, _, _, rfl, ?_⟩)
/-- a drawn row -/
structure RowD (r : Row) : Prop where
  ok : RowOk r
  phi : phi r ≤ 21
  pr : 1 ≤ r.price ∧ r.price ≤ 10 ^ 6
  left : r.left ≤ 10 ^ 9
/-- drawn rows: their numbers and stamps are unlike, below what comes next -/
structure RowsD (rows : List Row) (num st : Int) : Prop where
  row : ∀ r ∈ rows, RowD r
  nums : (∀ a ∈ rows, ∀ b ∈ rows, a.num = b.num → a = b) ∧ ∀ r ∈ rows, 0 ≤ r.num ∧ r.num < num
  ranks : UR rows st
  st0 : ∀ r ∈ rows, 0 ≤ r.rank
  nd : rows.Nodup
theorem RowsD.nil {a b : Int} : RowsD [] a b := ⟨fun r h => (by cases h), ⟨fun r h => (by cases h), fun r h => (by cases h)⟩, ⟨fun r h => (by cases h), fun r h => (by cases h)⟩, fun r h => (by cases h), List.nodup_nil⟩
theorem RowsD.perm {r r' : List Row} {a b : Int} (h : RowsD r a b) (p : r.Perm r') : RowsD r' a b :=
  ⟨fun x hx => h.row x (p.mem_iff.mpr hx), ⟨fun x hx y hy e => h.nums.1 x (p.mem_iff.mpr hx) y (p.mem_iff.mpr hy) e, fun x hx => h.nums.2 x (p.mem_iff.mpr hx)⟩, h.ranks.perm p, fun x hx => h.st0 x (p.mem_iff.mpr hx), p.nodup_iff.mp h.nd⟩
theorem RowsD.add {rows : List Row} {a b a' b' : Int} (h : RowsD rows a b) {r : Row} (hr : RowD r) (e1 : r.num = a) (e2 : r.rank = b) (h1 : a < a') (h2 : b < b') (a0 : 0 ≤ a) (b0 : 0 ≤ b) : RowsD (rows ++ [r]) a' b' := by
  have mem : ∀ x, x ∈ rows ++ [r] → x ∈ rows ∨ x = r := fun x hx => by
    rcases List.mem_append.mp hx with z | z
    · exact .inl z
    · exact .inr (List.mem_singleton.mp z)
  refine ⟨fun x hx => ?_, ⟨fun x hx y hy e => ?_, fun x hx => ?_⟩, ⟨fun x hx y hy e => ?_, fun x hx => ?_⟩, fun x hx => ?_, List.nodup_append.mpr ⟨h.nd, by simp, fun x hx y hy e => ?_⟩⟩
  · rcases mem x hx with z | z
    · exact h.row x z
    · rw [z]; exact hr
  · rcases mem x hx with z | z <;> rcases mem y hy with z2 | z2
    · exact h.nums.1 x z y z2 e
    · have := (h.nums.2 x z).2
      rw [z2] at e
      omega
    · have := (h.nums.2 y z2).2
      rw [z] at e
      omega
    · rw [z, z2]
  · rcases mem x hx with z | z
    · have := h.nums.2 x z
      omega
    · rw [z]; omega
  · rcases mem x hx with z | z <;> rcases mem y hy with z2 | z2
    · exact h.ranks.1 x z y z2 e
    · have := h.ranks.2 x z
      rw [z2] at e
      omega
    · have := h.ranks.2 y z2
      rw [z] at e
      omega
    · rw [z, z2]
  · rcases mem x hx with z | z
    · have := h.ranks.2 x z
      omega
    · rw [z]; omega
  · rcases mem x hx with z | z
    · exact h.st0 x z
    · rw [z]; omega
  · have hy' : y = r := by simpa using hy
    have := (h.nums.2 x hx).2
    rw [e, hy', e1] at this
    omega
theorem cut_two (rows : List Row) {r : Int} (h : 0 ≤ r) : ∃ ys : List Row, cutD (rows.map Row.dat) (some r) none ++ cutD (rows.map Row.dat) none (some r) = ys.map Row.dat ∧ ys.Perm rows ∧ ((cutD (rows.map Row.dat) (some r) none).length + (cutD (rows.map Row.dat) none (some r)).length = rows.length) := by
  obtain ⟨k, rfl⟩ := Int.eq_ofNat_of_zero_le h
  have e1 : cutD (rows.map Row.dat) (some (k : Int)) none = (rows.drop k).map Row.dat := by
    unfold cutD
    rw [HT.sIx_nat, HT.sIx_none, List.take_of_length_le (by rw [List.length_drop]; exact Nat.le_refl _), List.length_map, ← List.map_drop]
    by_cases q : k ≤ rows.length
    · rw [Nat.min_eq_left q]
    · rw [Nat.min_eq_right (by omega), List.drop_eq_nil_of_le (Nat.le_refl _), List.drop_eq_nil_of_le (by omega)]
  have e2 : cutD (rows.map Row.dat) none (some (k : Int)) = (rows.take k).map Row.dat := by
    unfold cutD
    rw [HT.sIx_nat, HT.sIx_none, List.drop_zero, Nat.sub_zero, List.length_map, ← List.map_take]
    by_cases q : k ≤ rows.length
    · rw [Nat.min_eq_left q]
    · rw [Nat.min_eq_right (by omega), List.take_of_length_le (Nat.le_refl _), List.take_of_length_le (by omega)]
  refine ⟨rows.drop k ++ rows.take k, by rw [e1, e2, List.map_append], ?_, ?_⟩
  · have := List.perm_append_comm (l₁ := rows.drop k) (l₂ := rows.take k)
    rwa [List.take_append_drop] at this
  · rw [e1, e2, List.length_map, List.length_map, List.length_drop, List.length_take]
    omega
theorem rowD_part {num pr rank l p s : Int} {who sd : Str} (hw : PyData.strOk who = true) (hs : sd = "buy" ∨ sd = "sell") (hp : 1 ≤ pr ∧ pr ≤ 10 ^ 6) (l1 : 1 ≤ l ∧ l ≤ 10 ^ 9) (p1 : 1 ≤ p ∧ p < 2 ^ 40) (p3 : l ≤ 20 * p) (s1 : 1 ≤ s ∧ s ≤ l) : RowD ⟨num, who, sd, pr, some p, l, s, rank⟩ := by
  refine ⟨⟨s1.1, s1.2, by show l < 2 ^ 64; omega, fun q e => ?_, fun e => (by cases e), hw, hs⟩, ?_, hp, l1.2⟩
  · cases e
    exact ⟨p1.1, by omega⟩
  · show 1 + ((l - s + p - 1) / p).toNat ≤ 21
    have : (l - s + p - 1) / p < 21 := Int.ediv_lt_of_lt_mul (by omega) (by omega)
    omega
theorem rowD_all {num pr rank l : Int} {who sd : Str} (hw : PyData.strOk who = true) (hs : sd = "buy" ∨ sd = "sell") (hp : 1 ≤ pr ∧ pr ≤ 10 ^ 6) (l1 : 1 ≤ l ∧ l ≤ 10 ^ 9) : RowD ⟨num, who, sd, pr, none, l, l, rank⟩ := by
  refine ⟨⟨l1.1, Int.le_refl _, by show l < 2 ^ 64; omega, fun q e => (by cases e), fun _ => rfl, hw, hs⟩, by show 1 + 0 ≤ 21; omega, hp, l1.2⟩
def mRows : DM := fun rs n Q => ∃ (ns : List Str) (many way : Int), rs = [.tape, .d (.list (ns.map PyData.str)), .d (.int many), .d (.int way)] ∧ Cnd ((0 ≤ many ∧ many ≤ 100) ∧ (0 ≤ way ∧ way < 4) ∧ (0 < ns.length ∧ ns.length ≤ 1000) ∧ (∀ s ∈ ns, PyData.strOk s = true) ∧ 0 ≤ n ∧ n + 3000 < 2 ^ 30) ∧
  ∀ (rows : List Row) (num st n' : Int), Cnd ((rows.length : Int) = many ∧ RowsD rows num st ∧ (0 ≤ num ∧ num ≤ 8 + 4 * many ∧ 0 ≤ st ∧ st ≤ 8 + 4 * many) ∧ n ≤ n' ∧ n' ≤ n + 20 * many + 5) → Q (.d (.tuple [dRows rows, .int st])) n'
theorem L_rows : ∀ rs n Q, mRows rs n Q → plainR rs ∧ rs.length = 4 := by
  rintro rs n Q ⟨ns, m, w, rfl, h⟩
  exact tapeR (ds := [_, _, _]) rfl
section
variable {P : Program} {w : World} {K : PySem.W.Frag} {mg : Str → Option Value} {base : Heap}
abbrev s_law_rows : Stmt := topS 29
theorem sc_law_rows : FnScope ["purse", "names", "many", "way", "found", "number", "stamp", "at", "left", "part", "seen", "who", "side"] ["purse", "names", "many", "way"] (defScope s_law_rows) := ⟨rfl, rfl, rfl, by decide +kernel, rfl, by decide +kernel, by decide +kernel⟩
theorem ok_rows {f : Addr} {fd : FuncData} (F : Fun K "_law_rows" "_law_rows" s_law_rows f fd) (T : Txt mg) (c_coin : Cal P w K mg base 1 "_law_coin" ["purse", "many"] (spD mCoin)) (c_level : Cal P w K mg base 2 "_law_level" ["purse", "way"] (spD mLevel)) : FnOk P w K mg base CX0 3 f fd ["purse", "names", "many", "way"] (spD mRows) := by
  apply okD F sc_law_rows L_rows
  case body =>
    intro cdv A outer s H E hr
    obtain ⟨f_coin, fd_coin, G_coin, m_coin, k_coin, b_coin⟩ := c_coin
    obtain ⟨f_level, fd_level, G_level, m_level, k_level, b_level⟩ := c_level
    exact (psCons (psSet (i := 4) sc_law_rows.nd rfl (Or.inl rfl) (pdLst paNil))
          (psCons (psSet (i := 5) sc_law_rows.nd rfl (Or.inl rfl) (pdCall (fun _ _ _ q => (L_coin _ _ _ q).1) G_coin (hr.mono (by decide)) (by rfl) m_coin k_coin b_coin pass0 (paCons (pdV (pv 0)) (paCons (pdC pe_int) paNil))))
          (psCons (psSet (i := 6) sc_law_rows.nd rfl (Or.inl rfl) (pdCall (fun _ _ _ q => (L_coin _ _ _ q).1) G_coin (hr.mono (by decide)) (by rfl) m_coin k_coin b_coin pass0 (paCons (pdV (pv 0)) (paCons (pdC pe_int) paNil))))
          (psCons (psFor PassesOwn.never rfl (piRng (pi_range1 (by rfl) T.b_range (paCons (pdV (pv 2)) paNil))) (pgN (pg_name (i := 7) sc_law_rows.nd rfl (Or.inl rfl)))
           (psCons (psSet (i := 8) sc_law_rows.nd rfl (Or.inl rfl) (pdOp r2Add op_add (pdC pe_int) (pdCall (fun _ _ _ q => (L_coin _ _ _ q).1) G_coin (hr.mono (by decide)) (by rfl) m_coin k_coin b_coin pass0 (paCons (pdV (pv 0)) (paCons (pdIx r2IxL ix_list (pdLst (paCons (pdC pe_int) (paCons (pdC pe_int) (paCons (pdOp r2Pow op_pow (pdC pe_int) (pdC pe_int)) paNil)))) (pdCall (fun _ _ _ q => (L_coin _ _ _ q).1) G_coin (hr.mono (by decide)) (by rfl) m_coin k_coin b_coin pass0 (paCons (pdV (pv 0)) (paCons (pdC pe_int) paNil))) (fun _ _ => rfl)) paNil)))))
            (psCons (psSet (i := 9) sc_law_rows.nd rfl (Or.inl rfl) (pdC pe_non))
            (psCons (psSet (i := 10) sc_law_rows.nd rfl (Or.inl rfl) (pdV (pv 8)))
            (psCons (psIf (ptCmp r2Eq op_eq (pdCall (fun _ _ _ q => (L_coin _ _ _ q).1) G_coin (hr.mono (by decide)) (by rfl) m_coin k_coin b_coin pass0 (paCons (pdV (pv 0)) (paCons (pdC pe_int) paNil))) (pdC pe_int) (nomark _)) (psCons (psSet (i := 9) sc_law_rows.nd rfl (Or.inl rfl) (pdB rs2I (call_max2 rfl) (by rfl) T.b_max (by decide +kernel) (paCons (pdOp r2Div op_fdivW (pdOp r2Add op_add (pdV (pv 8)) (pdIx r2IxL ix_list (pdLst (paCons (pdC pe_int) (paCons (pdC pe_int) paNil))) (pdTy (T := "int") rsInt call_int1 (by rfl) T.b_int (by decide +kernel) (paCons (pdCmp r2Gt op_gt (pdV (pv 7)) (pdC pe_int) (nomark _)) paNil)) (fun _ _ => rfl))) (pdIx r2IxL ix_list (pdLst (paCons (pdC pe_int) (paCons (pdC pe_int) paNil))) (pdTy (T := "int") rsInt call_int1 (by rfl) T.b_int (by decide +kernel) (paCons (pdCmp r2Gt op_gt (pdV (pv 7)) (pdC pe_int) (nomark _)) paNil)) (fun _ _ => rfl))) (paCons (pdOp r2Add op_add (pdC pe_int) (pdCall (fun _ _ _ q => (L_coin _ _ _ q).1) G_coin (hr.mono (by decide)) (by rfl) m_coin k_coin b_coin pass0 (paCons (pdV (pv 0)) (paCons (pdV (pv 8)) paNil)))) paNil))))
              (psOne (psSet (i := 10) sc_law_rows.nd rfl (Or.inl rfl) (pdB rs2I (call_min2 rfl) (by rfl) T.b_min (by decide +kernel) (paCons (pdV (pv 8)) (paCons (pdOp r2Add op_add (pdC pe_int) (pdCall (fun _ _ _ q => (L_coin _ _ _ q).1) G_coin (hr.mono (by decide)) (by rfl) m_coin k_coin b_coin pass0 (paCons (pdV (pv 0)) (paCons (pdV (pv 9)) paNil)))) paNil)))))) psNil)
            (psCons (psSet (i := 11) sc_law_rows.nd rfl (Or.inl rfl) (pdIx r2IxL ix_list (pdV (pv 1)) (pdCall (fun _ _ _ q => (L_coin _ _ _ q).1) G_coin (hr.mono (by decide)) (by rfl) m_coin k_coin b_coin pass0 (paCons (pdV (pv 0)) (paCons (pdB rsLen call_len_seq (by rfl) T.b_len (by decide +kernel) (paCons (pdV (pv 1)) paNil)) paNil))) (fun _ _ => rfl)))
            (psCons (psSet (i := 12) sc_law_rows.nd rfl (Or.inl rfl) (pdIx r2IxL ix_list (pdLst (paCons (pdC pe_str) (paCons (pdC pe_str) paNil))) (pdCall (fun _ _ _ q => (L_coin _ _ _ q).1) G_coin (hr.mono (by decide)) (by rfl) m_coin k_coin b_coin pass0 (paCons (pdV (pv 0)) (paCons (pdC pe_int) paNil))) (fun _ _ => rfl)))
            (psCons (psApp (by rfl) (pe_bm PySem.F.plainAttrs_list PySem.F.slot_list_append PySem.F.type_list_append mt_append (pv 4) (pa_cons (pdTup (paCons (pdV (pv 5)) (paCons (pdV (pv 11)) (paCons (pdV (pv 12)) (paCons (pdCall (fun _ _ _ q => (L_level _ _ _ q).1) G_level (hr.mono (by decide)) (by rfl) m_level k_level b_level pass0 (paCons (pdV (pv 0)) (paCons (pdV (pv 3)) paNil))) (paCons (pdV (pv 9)) (paCons (pdV (pv 8)) (paCons (pdV (pv 10)) (paCons (pdV (pv 6)) paNil))))))))) pa_nil)))
            (psCons (psSet (i := 5) sc_law_rows.nd rfl (Or.inl rfl) (pdOp r2Add op_add (pdOp r2Add op_add (pdV (pv 5)) (pdC pe_int)) (pdCall (fun _ _ _ q => (L_coin _ _ _ q).1) G_coin (hr.mono (by decide)) (by rfl) m_coin k_coin b_coin pass0 (paCons (pdV (pv 0)) (paCons (pdC pe_int) paNil)))))
            (psOne (psSet (i := 6) sc_law_rows.nd rfl (Or.inl rfl) (pdOp r2Add op_add (pdOp r2Add op_add (pdV (pv 6)) (pdC pe_int)) (pdCall (fun _ _ _ q => (L_coin _ _ _ q).1) G_coin (hr.mono (by decide)) (by rfl) m_coin k_coin b_coin pass0 (paCons (pdV (pv 0)) (paCons (pdC pe_int) paNil)))))))))))))))
          (psCons (psSet (i := 7) sc_law_rows.nd rfl (Or.inl rfl) (pdCall (fun _ _ _ q => (L_coin _ _ _ q).1) G_coin (hr.mono (by decide)) (by rfl) m_coin k_coin b_coin pass0 (paCons (pdV (pv 0)) (paCons (pdOp r2Add op_add (pdV (pv 2)) (pdC pe_int)) paNil))))
          (psFrz 4 (psOne (psRet (pdTup (paCons (pdOp r2Cat op_cat (pdSl slLD sl_list (pdV (pv 4)) (poSome (pdV (pv 7))) poNone) (pdSl slLD sl_list (pdV (pv 4)) poNone (poSome (pdV (pv 7))))) (paCons (pdV (pv 6)) paNil)))))))))))
  case data =>
    rintro rs n Q ⟨ns, many, way, rfl, cc, h⟩
    obtain ⟨⟨hm0, hm1⟩, hw, ⟨hn0, hn1⟩, hok, hn2, hn3⟩ := cc.get
    repeat walk_at "d"
    refine ⟨cnd ⟨by decide, by omega⟩, fun r1 r1a r1b => ?_⟩
    repeat walk_at "d"
    refine ⟨cnd ⟨by decide, by omega⟩, fun r2 r2a r2b => ?_⟩
    repeat walk_at "d"
    refine ⟨by omega, by omega, ?_⟩
    refine ⟨fun i ρ m => (n ≤ m ∧ m ≤ n + 2 + 20 * i) ∧ ∃ (rows : List Row) (a b : Int) (j7 j8 j9 j10 j11 j12 : DV), ρ = [.tape, .d (.list (ns.map PyData.str)), .d (.int many), .d (.int way), .own (rows.map Row.dat), .d (.int a), .d (.int b), j7, j8, j9, j10, j11, j12] ∧ rows.length = i ∧ RowsD rows a b ∧ (0 ≤ a ∧ a ≤ 8 + 4 * i) ∧ (0 ≤ b ∧ b ≤ 8 + 4 * i), ⟨⟨by omega, by omega⟩, [], _, _, _, _, _, _, _, _, rfl, rfl, .nil, ⟨by omega, by omega⟩, ⟨by omega, by omega⟩⟩, ?_, ?_⟩
    · rintro i d ρ m hd ⟨⟨hm2, hm3⟩, rows, a, b, j7, j8, j9, j10, j11, j12, rfl, hlen, hT, ⟨ha0, ha1⟩, ⟨hb0, hb1⟩⟩
      have hi : i < many.toNat := by
        have := (List.getElem?_eq_some_iff.mp hd).1
        rwa [List.length_map, List.length_range] at this
      rw [List.getElem?_map, List.getElem?_range hi] at hd
      cases hd
      repeat walk_at "d"
      refine ⟨cnd ⟨by decide, by omega⟩, fun c1 c1a c1b => ?_⟩
      obtain ⟨k, ek, k1, k2⟩ : ∃ k : Int, opIxL (.list [.int 9, .int 200, .int (10 ^ (9 : Int).toNat)]) (.int c1) = some (.d (.int k)) ∧ 1 ≤ k ∧ k ≤ 10 ^ 9 := by
        rcases ix3 (a := .int 9) (b := .int 200) (c := .int (10 ^ (9 : Int).toNat)) c1a c1b with e | e | e
        · exact ⟨9, e, by decide, by decide⟩
        · exact ⟨200, e, by decide, by decide⟩
        · exact ⟨10 ^ 9, e, by decide, by decide⟩
      repeat walk_at "d"
      refine ⟨_, ek, ?_⟩
      repeat walk_at "d"
      refine ⟨cnd ⟨⟨k1, by omega⟩, by omega⟩, fun lf lf0 lf1 => ?_⟩
      have hl1 : 1 ≤ 1 + lf ∧ 1 + lf ≤ 10 ^ 9 := by omega
      repeat walk_at "d"
      refine ⟨cnd ⟨by decide, by omega⟩, fun c2 c2a c2b => ?_⟩
      repeat walk_at "d"
      refine ite2 (fun q => ?_) (fun q => ?_)
      · have w0 : (0 : Int) ≤ (if (0 : Int) < (i : Int) then 1 else 0) ∧ (if (0 : Int) < (i : Int) then (1 : Int) else 0) < 2 := by split <;> omega
        obtain ⟨x, y, ex, ey, hxy⟩ : ∃ x y : Int, opIxL (.list [.int 19, .int 3]) (.int (if (0 : Int) < (i : Int) then 1 else 0)) = some (.d (.int x)) ∧ opIxL (.list [.int 20, .int 4]) (.int (if (0 : Int) < (i : Int) then 1 else 0)) = some (.d (.int y)) ∧ (x = 19 ∧ y = 20 ∨ x = 3 ∧ y = 4) := by
          by_cases q0 : (0 : Int) < (i : Int)
          · rw [if_pos q0]
            exact ⟨3, 4, rfl, rfl, .inr ⟨rfl, rfl⟩⟩
          · rw [if_neg q0]
            exact ⟨19, 20, rfl, rfl, .inl ⟨rfl, rfl⟩⟩
        repeat walk_at "d"
        refine ⟨_, bInt_dec ((0 : Int) < (i : Int)), ?_⟩
        repeat walk_at "d"
        refine ⟨_, ex, ?_⟩
        repeat walk_at "d"
        refine ⟨_, bInt_dec ((0 : Int) < (i : Int)), ?_⟩
        repeat walk_at "d"
        refine ⟨_, ey, ?_⟩
        repeat walk_at "d"
        have hdv : 0 ≤ (1 + lf + x) / y ∧ (1 + lf + x) / y ≤ 1 + lf + x := ⟨Int.ediv_nonneg (by omega) (by omega), Int.ediv_le_self _ (by omega)⟩
        refine ⟨_, if_pos (decide_eq_true (⟨by omega, by have := log_lt (i := y) (k := 10) (by omega) (by omega) (by decide); omega⟩ : CDivW (1 + lf + x) y)), ?_⟩
        repeat walk_at "d"
        refine ⟨cnd ⟨⟨by omega, by omega⟩, by omega⟩, fun c3 c3a c3b => ?_⟩
        repeat walk_at "d"
        have hpt : 1 ≤ (if 1 + c3 > (1 + lf + x) / y then 1 + c3 else (1 + lf + x) / y) ∧ (if 1 + c3 > (1 + lf + x) / y then 1 + c3 else (1 + lf + x) / y) < 2 ^ 40 := by split <;> omega
        have hp3 : 1 + lf ≤ 20 * (if 1 + c3 > (1 + lf + x) / y then 1 + c3 else (1 + lf + x) / y) := by
          rcases hxy with ⟨rfl, rfl⟩ | ⟨rfl, rfl⟩ <;> split <;> omega
        refine ⟨cnd ⟨⟨hpt.1, by have := hpt.2; exact Int.lt_of_lt_of_le this (by decide)⟩, by omega⟩, fun c4 c4a c4b => ?_⟩
        have hlm : ((ns.map PyData.str).length : Int) = ns.length := by rw [List.length_map]
        repeat walk_at "d"
        refine ⟨cnd ⟨⟨by omega, by omega⟩, by omega⟩, fun c5 c5a c5b => ?_⟩
        repeat walk_at "d"
        obtain ⟨who, hwho, ew⟩ := ixS (ns := ns) c5a (by omega)
        refine ⟨_, ew, ?_⟩
        repeat walk_at "d"
        refine ⟨cnd ⟨by decide, by omega⟩, fun c6 c6a c6b => ?_⟩
        obtain ⟨sd, esd, hsd⟩ : ∃ sd : Str, opIxL (.list [.str "buy", .str "sell"]) (.int c6) = some (.d (.str sd)) ∧ (sd = "buy" ∨ sd = "sell") := by
          rcases ix2 (a := .str "buy") (b := .str "sell") c6a c6b with e | e
          · exact ⟨_, e, .inl rfl⟩
          · exact ⟨_, e, .inr rfl⟩
        repeat walk_at "d"
        refine ⟨_, esd, ?_⟩
        repeat walk_at "d"
        refine ⟨cnd ⟨hw, by omega⟩, fun pr cpr => ?_⟩
        have hpr := cpr.get
        repeat walk_at "d"
        refine ⟨by rw [List.length_map]; omega, ?_⟩
        repeat walk_at "d"
        refine ⟨cnd ⟨by decide, by omega⟩, fun c7 c7a c7b => ?_⟩
        repeat walk_at "d"
        refine ⟨cnd ⟨by decide, by omega⟩, fun c8 c8a c8b => ?_⟩
        repeat walk_at "d"
        refine ⟨⟨by omega, by omega⟩, rows ++ [⟨a, who, sd, pr, some (if 1 + c3 > (1 + lf + x) / y then 1 + c3 else (1 + lf + x) / y), 1 + lf, if 1 + c4 < 1 + lf then 1 + c4 else 1 + lf, b⟩], a + 1 + c7, b + 1 + c8, .d (.int (i : Nat)), .d (.int (1 + lf)), .d (datP (some (if 1 + c3 > (1 + lf + x) / y then 1 + c3 else (1 + lf + x) / y))), .d (.int (if 1 + c4 < 1 + lf then 1 + c4 else 1 + lf)), .d (.str who), .d (.str sd), ?_, by rw [List.length_append]; show _ + 1 = _; omega, hT.add (rowD_part (hok who hwho) hsd hpr hl1 hpt hp3 ?_) rfl rfl (by omega) (by omega) ha0 hb0, by omega, by omega⟩
        · rw [List.map_append]
          rfl
        · split <;> omega
      · have hlm : ((ns.map PyData.str).length : Int) = ns.length := by rw [List.length_map]
        repeat walk_at "d"
        refine ⟨cnd ⟨⟨by omega, by omega⟩, by omega⟩, fun c5 c5a c5b => ?_⟩
        repeat walk_at "d"
        obtain ⟨who, hwho, ew⟩ := ixS (ns := ns) c5a (by omega)
        refine ⟨_, ew, ?_⟩
        repeat walk_at "d"
        refine ⟨cnd ⟨by decide, by omega⟩, fun c6 c6a c6b => ?_⟩
        obtain ⟨sd, esd, hsd⟩ : ∃ sd : Str, opIxL (.list [.str "buy", .str "sell"]) (.int c6) = some (.d (.str sd)) ∧ (sd = "buy" ∨ sd = "sell") := by
          rcases ix2 (a := .str "buy") (b := .str "sell") c6a c6b with e | e
          · exact ⟨_, e, .inl rfl⟩
          · exact ⟨_, e, .inr rfl⟩
        repeat walk_at "d"
        refine ⟨_, esd, ?_⟩
        repeat walk_at "d"
        refine ⟨cnd ⟨hw, by omega⟩, fun pr cpr => ?_⟩
        have hpr := cpr.get
        repeat walk_at "d"
        refine ⟨by rw [List.length_map]; omega, ?_⟩
        repeat walk_at "d"
        refine ⟨cnd ⟨by decide, by omega⟩, fun c7 c7a c7b => ?_⟩
        repeat walk_at "d"
        refine ⟨cnd ⟨by decide, by omega⟩, fun c8 c8a c8b => ?_⟩
        repeat walk_at "d"
        refine ⟨⟨by omega, by omega⟩, rows ++ [⟨a, who, sd, pr, none, 1 + lf, 1 + lf, b⟩], a + 1 + c7, b + 1 + c8, .d (.int (i : Nat)), .d (.int (1 + lf)), .d (datP (none)), .d (.int (1 + lf)), .d (.str who), .d (.str sd), ?_, by rw [List.length_append]; show _ + 1 = _; omega, hT.add (rowD_all (hok who hwho) hsd hpr hl1) rfl rfl (by omega) (by omega) ha0 hb0, by omega, by omega⟩
        rw [List.map_append]
        rfl
    · rintro ρ m ⟨⟨hm2, hm3⟩, rows, a, b, j7, j8, j9, j10, j11, j12, rfl, hlen, hT, ⟨ha0, ha1⟩, ⟨hb0, hb1⟩⟩
      rw [List.length_map, List.length_range] at hlen hm3 ha1 hb1
      repeat walk_at "d"
      refine ⟨cnd ⟨⟨by omega, by omega⟩, by omega⟩, fun r ra rb => ?_⟩
      repeat walk_at "d"
      obtain ⟨ys, e1, py, ly⟩ := cut_two rows ra
      refine ⟨_, opCat_ok (by omega), ?_⟩
      rw [e1]
      repeat walk_at "d"
      exact h ys _ _ _ (cnd ⟨by rw [py.length_eq]; omega, hT.perm py.symm, by omega, by omega, by omega⟩)
end

end
section
variable [Tabz]
local macro_rules | `(tactic| walk_at "d") => `(tactic| first | refine Or.inl ⟨_, rfl, ?_⟩ | refine Or.inr ⟨rfl, ?_⟩ | refine ⟨Nat.le_of_ble_eq_true rfl, ?_⟩ | refine ⟨⟨_, rfl⟩, ?_⟩ | refine ⟨_, rfl, ?_⟩ | refine ⟨_, _, rfl, ?_⟩ | refine ⟨_, _, _, rfl, ?_⟩ | refine ⟨_, _, _, _, rfl, ?_⟩)
section
variable {P : Program} {w : World} {K : PySem.W.Frag} {mg : Str → Option Value} {base : Heap}
def mComing : DM := fun rs n Q => ∃ (ns : List Str) (way : Int), rs = [.tape, .d (.list (ns.map PyData.str)), .d (.int way)] ∧ Cnd ((0 ≤ way ∧ way < 4) ∧ (0 < ns.length ∧ ns.length ≤ 1000) ∧ (∀ s ∈ ns, PyData.strOk s = true) ∧ 0 ≤ n ∧ n + 100 < 2 ^ 30) ∧
  ∀ (c : Com) (n' : Int), Cnd (GuardOk c.guard ∧ (1 ≤ c.left ∧ c.left ≤ 10 ^ 9) ∧ (c.side = "buy" ∨ c.side = "sell") ∧ PyData.strOk c.who = true ∧ (900 ≤ c.num ∧ c.num ≤ 908) ∧ (∀ p, c.price = some p → 1 ≤ p ∧ p ≤ 10 ^ 6) ∧ n ≤ n' ∧ n' ≤ n + 40) → Q (.d c.dat) n'
theorem L_coming : ∀ rs n Q, mComing rs n Q → plainR rs ∧ rs.length = 3 := by
  rintro rs n Q ⟨ns, w, rfl, h⟩
  exact tapeR (ds := [_, _]) rfl
abbrev s_law_coming : Stmt := topS 30
theorem sc_law_coming : FnScope ["purse", "names", "way", "side", "limit", "left", "who"] ["purse", "names", "way"] (defScope s_law_coming) := ⟨rfl, rfl, rfl, by decide +kernel, rfl, by decide +kernel, by decide +kernel⟩
theorem ok_coming {f : Addr} {fd : FuncData} (F : Fun K "_law_coming" "_law_coming" s_law_coming f fd) (T : Txt mg) (c_coin : Cal P w K mg base 1 "_law_coin" ["purse", "many"] (spD mCoin)) (c_level : Cal P w K mg base 2 "_law_level" ["purse", "way"] (spD mLevel)) : FnOk P w K mg base CX0 3 f fd ["purse", "names", "way"] (spD mComing) := by
  apply okD F sc_law_coming L_coming
  case body =>
    intro cdv A outer s H E hr
    obtain ⟨f_coin, fd_coin, G_coin, m_coin, k_coin, b_coin⟩ := c_coin
    obtain ⟨f_level, fd_level, G_level, m_level, k_level, b_level⟩ := c_level
    exact (psCons (psSet (i := 3) sc_law_coming.nd rfl (Or.inl rfl) (pdIx r2IxL ix_list (pdLst (paCons (pdC pe_str) (paCons (pdC pe_str) paNil))) (pdCall (fun _ _ _ q => (L_coin _ _ _ q).1) G_coin (hr.mono (by decide)) (by rfl) m_coin k_coin b_coin pass0 (paCons (pdV (pv 0)) (paCons (pdC pe_int) paNil))) (fun _ _ => rfl)))
          (psCons (psSet (i := 4) sc_law_coming.nd rfl (Or.inl rfl) (pdIx r2IxL ix_list (pdLst (paCons (pdC pe_non) (paCons (pdCall (fun _ _ _ q => (L_level _ _ _ q).1) G_level (hr.mono (by decide)) (by rfl) m_level k_level b_level pass0 (paCons (pdV (pv 0)) (paCons (pdV (pv 2)) paNil))) (paCons (pdCall (fun _ _ _ q => (L_level _ _ _ q).1) G_level (hr.mono (by decide)) (by rfl) m_level k_level b_level pass0 (paCons (pdV (pv 0)) (paCons (pdV (pv 2)) paNil))) paNil)))) (pdCall (fun _ _ _ q => (L_coin _ _ _ q).1) G_coin (hr.mono (by decide)) (by rfl) m_coin k_coin b_coin pass0 (paCons (pdV (pv 0)) (paCons (pdC pe_int) paNil))) (fun _ _ => rfl)))
          (psCons (psSet (i := 5) sc_law_coming.nd rfl (Or.inl rfl) (pdIx r2IxL ix_list (pdLst (paCons (pdOp r2Add op_add (pdC pe_int) (pdCall (fun _ _ _ q => (L_coin _ _ _ q).1) G_coin (hr.mono (by decide)) (by rfl) m_coin k_coin b_coin pass0 (paCons (pdV (pv 0)) (paCons (pdC pe_int) paNil)))) (paCons (pdOp r2Add op_add (pdC pe_int) (pdCall (fun _ _ _ q => (L_coin _ _ _ q).1) G_coin (hr.mono (by decide)) (by rfl) m_coin k_coin b_coin pass0 (paCons (pdV (pv 0)) (paCons (pdC pe_int) paNil)))) (paCons (pdOp r2Add op_add (pdC pe_int) (pdCall (fun _ _ _ q => (L_coin _ _ _ q).1) G_coin (hr.mono (by decide)) (by rfl) m_coin k_coin b_coin pass0 (paCons (pdV (pv 0)) (paCons (pdOp r2Pow op_pow (pdC pe_int) (pdC pe_int)) paNil)))) paNil)))) (pdCall (fun _ _ _ q => (L_coin _ _ _ q).1) G_coin (hr.mono (by decide)) (by rfl) m_coin k_coin b_coin pass0 (paCons (pdV (pv 0)) (paCons (pdC pe_int) paNil))) (fun _ _ => rfl)))
          (psCons (psSet (i := 6) sc_law_coming.nd rfl (Or.inl rfl) (pdIx r2IxL ix_list (pdV (pv 1)) (pdCall (fun _ _ _ q => (L_coin _ _ _ q).1) G_coin (hr.mono (by decide)) (by rfl) m_coin k_coin b_coin pass0 (paCons (pdV (pv 0)) (paCons (pdB rsLen call_len_seq (by rfl) T.b_len (by decide +kernel) (paCons (pdV (pv 1)) paNil)) paNil))) (fun _ _ => rfl)))
          (psOne (psRet (pdTup (paCons (pdOp r2Add op_add (pdC pe_int) (pdCall (fun _ _ _ q => (L_coin _ _ _ q).1) G_coin (hr.mono (by decide)) (by rfl) m_coin k_coin b_coin pass0 (paCons (pdV (pv 0)) (paCons (pdC pe_int) paNil)))) (paCons (pdV (pv 6)) (paCons (pdV (pv 3)) (paCons (pdV (pv 4)) (paCons (pdV (pv 5)) (paCons (pdIx r2IxL ix_list (pdLst (paCons (pdC pe_str) (paCons (pdC pe_str) (paCons (pdC pe_str) (paCons (pdC pe_str) paNil))))) (pdCall (fun _ _ _ q => (L_coin _ _ _ q).1) G_coin (hr.mono (by decide)) (by rfl) m_coin k_coin b_coin pass0 (paCons (pdV (pv 0)) (paCons (pdC pe_int) paNil))) (fun _ _ => rfl)) paNil)))))))))))))
  case data =>
    rintro rs n Q ⟨ns, way, rfl, cc, h⟩
    obtain ⟨hw, ⟨hn0, hn1⟩, hok, hn2, hn3⟩ := cc.get
    have hlm : ((ns.map PyData.str).length : Int) = ns.length := by rw [List.length_map]
    repeat walk_at "d"
    refine ⟨cnd ⟨by decide, by omega⟩, fun c1 c1a c1b => ?_⟩
    obtain ⟨sd, esd, hsd⟩ : ∃ sd : Str, opIxL (.list [.str "buy", .str "sell"]) (.int c1) = some (.d (.str sd)) ∧ (sd = "buy" ∨ sd = "sell") := by
      rcases ix2 (a := .str "buy") (b := .str "sell") c1a c1b with e | e
      · exact ⟨_, e, .inl rfl⟩
      · exact ⟨_, e, .inr rfl⟩
    repeat walk_at "d"
    refine ⟨_, esd, ?_⟩
    repeat walk_at "d"
    refine ⟨cnd ⟨hw, by omega⟩, fun l1 cl1 => ?_⟩
    repeat walk_at "d"
    refine ⟨cnd ⟨hw, by omega⟩, fun l2 cl2 => ?_⟩
    repeat walk_at "d"
    refine ⟨cnd ⟨by decide, by omega⟩, fun c2 c2a c2b => ?_⟩
    obtain ⟨lm, elm, hlm2⟩ : ∃ lm : Option Int, opIxL (.list [.none, .int l1, .int l2]) (.int c2) = some (.d (datP lm)) ∧ ∀ p, lm = some p → 1 ≤ p ∧ p ≤ 10 ^ 6 := by
      rcases ix3 (a := .none) (b := .int l1) (c := .int l2) c2a c2b with e | e | e
      · exact ⟨none, e, fun p h => (by cases h)⟩
      · exact ⟨some l1, e, fun p h => (by cases h; exact cl1.get)⟩
      · exact ⟨some l2, e, fun p h => (by cases h; exact cl2.get)⟩
    repeat walk_at "d"
    refine ⟨_, elm, ?_⟩
    repeat walk_at "d"
    refine ⟨cnd ⟨by decide, by omega⟩, fun d1 d1a d1b => ?_⟩
    repeat walk_at "d"
    refine ⟨cnd ⟨by decide, by omega⟩, fun d2 d2a d2b => ?_⟩
    repeat walk_at "d"
    refine ⟨cnd ⟨by decide, by omega⟩, fun d3 d3a d3b => ?_⟩
    repeat walk_at "d"
    refine ⟨cnd ⟨by decide, by omega⟩, fun d4 d4a d4b => ?_⟩
    obtain ⟨lf, elf, hlf⟩ : ∃ lf : Int, opIxL (.list [.int (1 + d1), .int (1 + d2), .int (1 + d3)]) (.int d4) = some (.d (.int lf)) ∧ 1 ≤ lf ∧ lf ≤ 10 ^ 9 := by
      rcases ix3 (a := .int (1 + d1)) (b := .int (1 + d2)) (c := .int (1 + d3)) d4a d4b with e | e | e
      · exact ⟨_, e, by omega, by have e9 : (10 : Int) ^ (9 : Int).toNat = 10 ^ 9 := rfl; first | omega | (rw [e9] at *; omega)⟩
      · exact ⟨_, e, by omega, by have e9 : (10 : Int) ^ (9 : Int).toNat = 10 ^ 9 := rfl; first | omega | (rw [e9] at *; omega)⟩
      · exact ⟨_, e, by omega, by have e9 : (10 : Int) ^ (9 : Int).toNat = 10 ^ 9 := rfl; first | omega | (rw [e9] at *; omega)⟩
    repeat walk_at "d"
    refine ⟨_, elf, ?_⟩
    repeat walk_at "d"
    refine ⟨cnd ⟨⟨by omega, by omega⟩, by omega⟩, fun c5 c5a c5b => ?_⟩
    repeat walk_at "d"
    obtain ⟨who, hwho, ew⟩ := ixS (ns := ns) c5a (by omega)
    refine ⟨_, ew, ?_⟩
    repeat walk_at "d"
    refine ⟨cnd ⟨by decide, by omega⟩, fun c6 c6a c6b => ?_⟩
    repeat walk_at "d"
    refine ⟨cnd ⟨by decide, by omega⟩, fun c7 c7a c7b => ?_⟩
    obtain ⟨gd, egd, hgd⟩ : ∃ gd : Str, opIxL (.list [.str "old", .str "new", .str "both", .str "less"]) (.int c7) = some (.d (.str gd)) ∧ GuardOk gd := by
      rcases ix4 (a := .str "old") (b := .str "new") (c := .str "both") (d := .str "less") c7a c7b with e | e | e | e
      · exact ⟨_, e, .inl rfl⟩
      · exact ⟨_, e, .inr (.inl rfl)⟩
      · exact ⟨_, e, .inr (.inr (.inl rfl))⟩
      · exact ⟨_, e, .inr (.inr (.inr rfl))⟩
    repeat walk_at "d"
    refine ⟨_, egd, ?_⟩
    repeat walk_at "d"
    exact h ⟨900 + c6, who, sd, lm, lf, gd⟩ _ (cnd ⟨hgd, hlf, hsd, hok who hwho, ⟨by show 900 ≤ 900 + c6; omega, by show 900 + c6 ≤ 908; omega⟩, hlm2, by omega, by omega⟩)
end

end
section
variable [Tabz]
local macro_rules | `(tactic| walk_at "d") => `(tactic| first | refine Or.inl ⟨_, rfl, ?_⟩ | refine Or.inr ⟨rfl, ?_⟩ | refine ⟨Nat.le_of_ble_eq_true rfl, ?_⟩ | refine ⟨⟨_, rfl⟩, ?_⟩ | refine ⟨_, rfl, ?_⟩ | refine ⟨_, _, rfl, ?_⟩ | refine ⟨_, _, _, rfl, ?_⟩ | refine ⟨_, _, _, _, rfl, ?_⟩)
/-! ### what the law makes of rows and events -/
section
variable {P : Program} {w : World} {K : PySem.W.Frag} {mg : Str → Option Value} {base : Heap}
def spaceR (r : Row) : Row := { r with rank := 2 * r.rank }
def mSpaced : DM := fun rs n Q => ∃ r : Row, rs = [.d r.dat] ∧ (0 ≤ r.rank ∧ r.rank < 2 ^ 60) ∧ Q (.d (spaceR r).dat) n
theorem L_spaced : ∀ rs n Q, mSpaced rs n Q → plainR rs ∧ rs.length = 1 := by
  rintro rs n Q ⟨es, rfl, _⟩
  exact plainOf_R (ds := [_]) rfl
abbrev s_law_spaced : Stmt := topS 31
theorem sc_law_spaced : FnScope ["row"] ["row"] (defScope s_law_spaced) := ⟨rfl, rfl, rfl, by decide +kernel, rfl, by decide +kernel, by decide +kernel⟩
theorem ok_spaced {f : Addr} {fd : FuncData} (F : Fun K "_law_spaced" "_law_spaced" s_law_spaced f fd) (T : Txt mg) : FnOk P w K mg base CX0 1 f fd ["row"] (spD mSpaced) := by
  apply okD F sc_law_spaced L_spaced
  case body =>
    intro cdv A outer s H E hr
    exact (psOne (psRet (pdOp r2CatT op_catA (pdSl slTD sl_tupA (pdV (pv 0)) poNone (poSome (pdC pe_int))) (pdTup (paCons (pdOp r2Mul op_mulW (pdC pe_int) (pdIx r2IxT ix_tup (pdV (pv 0)) (pdC pe_int) (fun _ _ => rfl))) paNil)))))
  case data =>
    rintro rs n Q ⟨r, rfl, ⟨h0, h1⟩, h⟩
    repeat walk_at "d"
    refine ⟨_, if_pos (decide_eq_true (mul_big (by decide) (by omega))), ?_⟩
    repeat walk_at "d"
    exact h
/-- what rows come to, by number -/
def keyN (n : Int) (r : Row) : Int := if r.num = 700 then n else r.num
def ag3 (d : PyData) : Int × Int × Int := match d with
  | .tuple [.int a, .int b, .int c] => (a, b, c)
  | _ => (0, 0, 10 ^ 9)
def d3 (t : Int × Int × Int) : PyData := .tuple [.int t.1, .int t.2.1, .int t.2.2]
def putL (n : Int) (kvs : List (Key × PyData)) (r : Row) : List (Key × PyData) :=
  putKD kvs (.inl (keyN n r)) (d3 (agS (ag3 ((valD kvs (.inl (keyN n r))).getD (d3 (0, 0, 10 ^ 9)))) r))
def leftD (n : Int) (rows : List Row) : List (Key × PyData) := rows.foldl (putL n) []
def mLeft : DM := fun rs n Q => ∃ (rows : List Row) (m : Int), rs = [.d (dRows rows), .d (.int m)] ∧ Cnd (rows.length ≤ 50000) ∧ Q (.dic (leftD m rows)) n
theorem L_left : ∀ rs n Q, mLeft rs n Q → plainR rs ∧ rs.length = 2 := by
  rintro rs n Q ⟨es, m, rfl, _⟩
  exact plainOf_R (ds := [_, _]) rfl
theorem leftD_len (n : Int) : ∀ (rows : List Row) (kvs : List (Key × PyData)), (rows.foldl (putL n) kvs).length ≤ kvs.length + rows.length
  | [], _ => Nat.le_refl _
  | r :: rows, kvs => by
    have h1 := leftD_len n rows (putL n kvs r)
    have h2 := putKD_len kvs (.inl (keyN n r)) (d3 (agS (ag3 ((valD kvs (.inl (keyN n r))).getD (d3 (0, 0, 10 ^ 9)))) r))
    have h3 : (putL n kvs r).length ≤ kvs.length + 1 := h2
    show (rows.foldl (putL n) (putL n kvs r)).length ≤ kvs.length + (rows.length + 1)
    omega
def All3 (kvs : List (Key × PyData)) : Prop := ∀ k v, valD kvs k = some v → ∃ t, v = d3 t
theorem All3.put {n : Int} {kvs : List (Key × PyData)} (h : All3 kvs) (r : Row) : All3 (putL n kvs r) := fun k v e => by
  unfold putL at e
  rw [valD_put] at e
  split at e
  · cases e
    exact ⟨_, rfl⟩
  · exact h k v e
theorem leftD_all (n : Int) : ∀ (rows : List Row) (kvs : List (Key × PyData)), All3 kvs → All3 (rows.foldl (putL n) kvs)
  | [], _, h => h
  | r :: rows, kvs, h => leftD_all n rows _ (h.put r)
abbrev s_law_left : Stmt := topS 33
theorem sc_law_left : FnScope ["rows", "number", "found", "row", "key", "one"] ["rows", "number"] (defScope s_law_left) := ⟨rfl, rfl, rfl, by decide +kernel, rfl, by decide +kernel, by decide +kernel⟩
theorem ok_left {f : Addr} {fd : FuncData} (F : Fun K "_law_left" "_law_left" s_law_left f fd) (T : Txt mg) : FnOk P w K mg base CX0 1 f fd ["rows", "number"] (spD mLeft) := by
  apply okD F sc_law_left L_left
  case body =>
    intro cdv A outer s H E hr
    exact (psCons (psSet (i := 2) sc_law_left.nd rfl (Or.inl rfl) (pdDNew pe_dnewK))
          (psCons (psFor PassesOwn.never rfl (piList (pdV (pv 0))) (pgN (pg_name (i := 3) sc_law_left.nd rfl (Or.inl rfl)))
           (psCons (psSet (i := 4) sc_law_left.nd rfl (Or.inl rfl) (pdIx r2IxT ix_tup (pdV (pv 3)) (pdC pe_int) (fun _ _ => rfl)))
            (psCut (psIf (ptCmp r2Eq op_eq (pdV (pv 4)) (pdC pe_int) (nomark _)) (psOne (psSet (i := 4) sc_law_left.nd rfl (Or.inl rfl) (pdV (pv 1)))) psNil)
            (psCons (psSet (i := 5) sc_law_left.nd rfl (Or.inl rfl) (pdDGet2 (hu_of hr) (pv 2) (pdV (pv 4)) (pdTup (paCons (pdC pe_int) (paCons (pdC pe_int) (paCons (pdOp r2Pow op_pow (pdC pe_int) (pdC pe_int)) paNil)))) ⟨rfl, rfl, rfl, rfl⟩))
            (psOne (psDPut (i := 2) (hu_of hr) (pv 2) (pdV (pv 4)) (pdTup (paCons (pdOp r2Add op_add (pdIx r2IxT ix_tup (pdV (pv 5)) (pdC pe_int) (fun _ _ => rfl)) (pdIx r2IxT ix_tup (pdV (pv 3)) (pdC pe_int) (fun _ _ => rfl))) (paCons (pdOp r2Add op_add (pdIx r2IxT ix_tup (pdV (pv 5)) (pdC pe_int) (fun _ _ => rfl)) (pdIx r2IxT ix_tup (pdV (pv 3)) (pdC pe_int) (fun _ _ => rfl))) (paCons (pdB rs2I (call_min2 rfl) (by rfl) T.b_min (by decide +kernel) (paCons (pdIx r2IxT ix_tup (pdV (pv 5)) (pdC pe_int) (fun _ _ => rfl)) (paCons (pdOp r2Sub op_sub (pdIx r2IxT ix_tup (pdV (pv 3)) (pdC pe_int) (fun _ _ => rfl)) (pdOp r2Mod op_mod (pdIx r2IxT ix_tup (pdV (pv 3)) (pdC pe_int) (fun _ _ => rfl)) (pdC pe_int))) paNil))) paNil))))))))))
          (psOne (psRetOwn (pv 2)))))
  case data =>
    rintro rs n Q ⟨rows, m, rfl, cc, h⟩
    have hlen := cc.get
    repeat walk_at "d"
    refine ⟨fun i ρ n' => n' = n ∧ ∃ j3 j4 j5, ρ = [.d (dRows rows), .d (.int m), .dic (leftD m (rows.take i)), j3, j4, j5], ⟨rfl, .un, .un, .un, rfl⟩, ?_, ?_⟩
    · rintro i d ρ n' hd ⟨rfl, j3, j4, j5, rfl⟩
      obtain ⟨r, hr, rfl⟩ := dat_at hd
      have et : leftD m (rows.take (i + 1)) = putL m (leftD m (rows.take i)) r := by
        unfold leftD
        rw [List.take_add_one, hr, List.foldl_append]
        rfl
      have h3 := leftD_all m (rows.take i) [] fun k v e => (by cases e)
      have hl := leftD_len m (rows.take i) []
      rw [List.length_take] at hl
      dsimp only
      rw [et]
      show ∃ ρ', _
      have hk3 : All3 (leftD m (rows.take i)) := h3
      have hl3 : (leftD m (rows.take i)).length ≤ 0 + min i rows.length := hl
      generalize leftD m (rows.take i) = kvs at *
      refine ⟨_, rfl, ?_⟩
      repeat walk_at "d"
      refine ⟨fun ρ n2 => n2 = n' ∧ ρ = [.d (dRows rows), .d (.int m), .dic kvs, .d r.dat, .d (.int (keyN m r)), j5], ?_, ?_⟩
      · repeat walk_at "d"
        refine ite2 (fun q => ?_) (fun q => ?_)
        · have q := of_decide_eq_true q
          repeat walk_at "d"
          refine ⟨rfl, ?_⟩
          unfold keyN
          rw [if_pos q]
          rfl
        · have q := of_decide_eq_false (Bool.eq_false_iff.mpr q)
          repeat walk_at "d"
          refine ⟨rfl, ?_⟩
          unfold keyN
          rw [if_neg q]
          rfl
      · rintro ρ n2 ⟨rfl, rfl⟩
        obtain ⟨t, ht⟩ : ∃ t, (valD kvs (.inl (keyN m r))).getD (d3 (0, 0, 10 ^ 9)) = d3 t := by
          cases q : valD kvs (.inl (keyN m r)) with
          | none => exact ⟨_, rfl⟩
          | some v =>
            obtain ⟨t, e⟩ := hk3 _ _ q
            exact ⟨t, by rw [e]; rfl⟩
        repeat walk_at "d"
        refine ⟨.inl (keyN m r), rfl, ?_⟩
        repeat walk_at "d"
        generalize hgd : (valD kvs (Sum.inl (keyN m r))).getD _ = z
        have ez : z = d3 t := hgd.symm.trans ht
        subst ez
        repeat walk_at "d"
        refine ⟨.inl (keyN m r), rfl, ?_⟩
        repeat walk_at "d"
        have eput : putL m kvs r = putKD kvs (.inl (keyN m r)) (d3 (agS t r)) := by
          unfold putL
          rw [ht]
          rfl
        rw [eput]
        exact ⟨by omega, rfl, .d r.dat, .d (.int (keyN m r)), .d (d3 t), rfl⟩
    · rintro ρ n' ⟨rfl, j3, j4, j5, rfl⟩
      refine ⟨_, rfl, rfl, ?_⟩
      rw [List.length_map, List.take_length]
      exact h
end

end
section
variable [Tabz]
local macro_rules | `(tactic| walk_at "d") => `(tactic| first | refine Or.inl ⟨_, rfl, ?_⟩ | refine Or.inr ⟨rfl, ?_⟩ | refine ⟨Nat.le_of_ble_eq_true rfl, ?_⟩ | refine ⟨⟨_, rfl⟩, ?_⟩ | refine ⟨_, rfl, ?_⟩ | refine ⟨_, _, rfl, ?_⟩ | refine ⟨_, _, _, rfl, ?_⟩ | refine ⟨_, _, _, _, rfl, ?_⟩)
/-! ### events with the second part's number taken for the first one's, put together -/
def rn (n x : Int) : Int := if x = 700 then n else x
def renE (n : Int) : Evt → Evt
  | .trade b s p a => .trade (rn n b) (rn n s) p a
  | .shown m k => .shown (rn n m) k
  | .off m a => .off (rn n m) a
  | .less a b c => .less (rn n a) (rn n b) c
def tryJ (n : Int) (f : List Evt) : Evt → List Evt × Evt
  | .trade b s p a => match f.getLast? with
    | some (.trade b' s' p' a') => if (b' = rn n b ∧ s' = rn n s ∧ p' = p) ∧ (rn n b = n ∨ rn n s = n) then (f.dropLast, .trade (rn n b) (rn n s) p (a + a')) else (f, .trade (rn n b) (rn n s) p a)
    | _ => (f, .trade (rn n b) (rn n s) p a)
  | e => (f, renE n e)
def stepJ (n : Int) (f : List Evt) (e : Evt) : List Evt := (tryJ n f e).1 ++ [(tryJ n f e).2]
def mJoin14 : DM := fun rs n Q => ∃ (es : List Evt) (m : Int), rs = [.d (dEvts es), .d (.int m)] ∧ Cnd (es.length ≤ 50000) ∧ Q (.own ((es.foldl (stepJ m) []).map Evt.dat)) n
theorem L_joined : ∀ rs n Q, mJoin14 rs n Q → plainR rs ∧ rs.length = 2 := by
  rintro rs n Q ⟨es, m, rfl, _⟩
  exact plainOf_R (ds := [_, _]) rfl
theorem tryJ_len (n : Int) (f : List Evt) (e : Evt) : (tryJ n f e).1.length ≤ f.length := by
  unfold tryJ
  split
  · split
    · split
      · rw [List.length_dropLast]; omega
      · exact Nat.le_refl _
    · exact Nat.le_refl _
  · exact Nat.le_refl _
theorem foldJ14_len (n : Int) : ∀ (es f : List Evt), (es.foldl (stepJ n) f).length ≤ f.length + es.length
  | [], _ => Nat.le_refl _
  | e :: es, f => by
    have h1 := foldJ14_len n es (stepJ n f e)
    have h2 := tryJ_len n f e
    have h3 : (stepJ n f e).length = (tryJ n f e).1.length + 1 := by unfold stepJ; rw [List.length_append]; rfl
    show (es.foldl (stepJ n) (stepJ n f e)).length ≤ f.length + (es.length + 1)
    omega
theorem one_int (b : Int) : SeqAt.shaped (.int b) = true := rfl
theorem in12 (k : Int) (l : List PyData) (hl : SeqAt.shaped (.list l) = true) : opIn false (.int k) (.list l) = some (.d (.bool (l.any fun z => PyData.eqv z (.int k)))) := if_pos ⟨one_int k, hl⟩
theorem names2 : SeqAt.shaped (.list [.int 1, .int 2]) = true := by decide +kernel
theorem names1 : SeqAt.shaped (.list [.int 1]) = true := by decide +kernel
theorem two_ints (b s : Int) : SeqAt.shaped (.tuple [.int b, .int s]) = true := by
  unfold SeqAt.shaped
  simp only [PyData.canLay0, PyData.canLayAll0, PyData.depth, PyData.depthAll]
  first | rfl | simp
/-- the first four words -/
def take4 : Evt → List PyData
  | .trade b s p _ => [.str "trade", .int b, .int s, .int p]
  | .shown m n => [.str "shown", .int m, .int n]
  | .off m a => [.str "off", .int m, .int a, .str "guard"]
  | .less a b c => [.str "less", .int a, .int b, .int c]
theorem cut4 (e : Evt) : opSlT e.dat none (some 4) = some (.d (.tuple (take4 e))) := by cases e <;> rfl
theorem take4_shaped (e : Evt) : SeqAt.shaped (.tuple (take4 e)) = true := by
  cases e <;> (unfold SeqAt.shaped; simp only [take4, PyData.canLay0, PyData.canLayAll0, PyData.depth, PyData.depthAll]; decide +kernel)
theorem eq4 (l : Evt) (b s p a : Int) : opEqD (.tuple (take4 l)) (.tuple (take4 (.trade b s p a))) = some (.d (.bool (match l with | .trade b' s' p' _ => decide (b' = b ∧ s' = s ∧ p' = p) | _ => false))) := by
  have hs : opEqD (.tuple (take4 l)) (.tuple (take4 (.trade b s p a))) = some (.d (.bool (PyData.eqv (.tuple (take4 l)) (.tuple (take4 (.trade b s p a)))))) := if_pos ⟨take4_shaped l, take4_shaped _⟩
  rw [hs]
  congr 3
  cases l with
  | trade b' s' p' a' =>
    have e0 : (Str.ofString "trade" == Str.ofString "trade") = true := by decide +kernel
    simp only [take4, PyData.eqv, PyData.eqvAll, e0, Bool.true_and, Bool.and_true]
    by_cases h1 : b' = b <;> by_cases h2 : s' = s <;> by_cases h3 : p' = p <;> simp [h1, h2, h3]
  | _ => simp only [take4, PyData.eqv, PyData.eqvAll, ev_1, ev_2, ev_3, Bool.false_and]
theorem inNum (n b s : Int) : opInT false (.int n) (.tuple [.int b, .int s]) = some (.d (.bool (decide (b = n ∨ s = n)))) := by
  have hs : opInT false (.int n) (.tuple [.int b, .int s]) = some (.d (.bool ([PyData.int b, PyData.int s].any fun z => PyData.eqv z (.int n)))) := by
    show (if SeqAt.shaped (PyData.int n) = true ∧ SeqAt.shaped (PyData.tuple [.int b, .int s]) = true then some (DV.d (.bool (if false = true then _ else _))) else none) = _
    rw [if_pos ⟨one_int n, two_ints b s⟩]
    rfl
  rw [hs]
  congr 3
  simp only [List.any_cons, List.any_nil, PyData.eqv, Bool.or_false]
  by_cases h1 : b = n <;> by_cases h2 : s = n <;> simp [h1, h2]
section
variable {P : Program} {w : World} {K : PySem.W.Frag} {mg : Str → Option Value} {base : Heap}
abbrev s_law_joined : Stmt := topS 32
theorem sc_law_joined : FnScope ["events", "number", "found", "event", "names", "one", "at", "part"] ["events", "number"] (defScope s_law_joined) := ⟨rfl, rfl, rfl, by decide +kernel, rfl, by decide +kernel, by decide +kernel⟩
theorem ok_joined14 {f : Addr} {fd : FuncData} (F : Fun K "_law_joined" "_law_joined" s_law_joined f fd) (T : Txt mg) : FnOk P w K mg base CX0 1 f fd ["events", "number"] (spD mJoin14) := by
  apply okD F sc_law_joined L_joined
  case body =>
    intro cdv A outer s H E hr
    exact (psCons (psSet (i := 2) sc_law_joined.nd rfl (Or.inl rfl) (pdLst paNil))
          (psCons (psFor PassesOwn.never rfl (piList (pdV (pv 0))) (pgN (pg_name (i := 3) sc_law_joined.nd rfl (Or.inl rfl)))
           (psCons (psSet (i := 4) sc_law_joined.nd rfl (Or.inr rfl) (pdSl slLD sl_list (pdLst (paCons (pdC pe_int) (paCons (pdC pe_int) paNil))) poNone (poSome (pdOp r2Add op_add (pdC pe_int) (pdTy (T := "int") rsInt call_int1 (by rfl) T.b_int (by decide +kernel) (paCons (pdCmp r2InT (op_inT hr.units65) (pdIx r2IxT ix_tup (pdV (pv 3)) (pdC pe_int) (fun _ _ => rfl)) (pdTup (paCons (pdC pe_str) (paCons (pdC pe_str) paNil))) (by rfl)) paNil))))))
            (psFrz 4 (psCut (psSet (i := 5) sc_law_joined.nd rfl (Or.inl rfl) (pdTy rsTuple call_tuple_of (by rfl) T.b_tuple (by decide +kernel) (paCons ((pe_lc (own := [("at", 6), ("part", 7)]) (tt := tYes) rfl sc_law_joined.nd (piEnumT (pi_enumT (by rfl) T.b_enumerate (paCons (pdV (pv 3)) paNil))) (blkOk_by (N := ["events", "number", "found", "event", "names", "one", "at", "part"]) (sc := defScope s_law_joined) (by decide +kernel)) (fun _ _ _ _ _ => (pgTup (n := 2) rfl (pgCons (pgN (pg_name (i := 6) sc_law_joined.nd rfl (Or.inl rfl))) (pgCons (pgN (pg_name (i := 7) sc_law_joined.nd rfl (Or.inl rfl))) pgNil)))) (fun _ _ _ _ _ => pts_nil) (fun _ _ _ _ _ => (pdIf (PW.pt (pwAnd (ptCmp r2In (op_inD hr.units65) (pdV (pv 6)) (pdV (pv 4)) (by rfl)) (pwAnd1 (ptCmp r2Eq op_eq (pdV (pv 7)) (pdC pe_int) (nomark _))))) (pdV (pv 1)) (pdV (pv 7))))).imp (lc_le (by decide) yes_le)) paNil)))
            (psCut (psIf (ptPk (PW.pt (pwAnd (ptCmp r2Eq op_eq (pdIx r2IxT ix_tup (pdV (pv 3)) (pdC pe_int) (fun _ _ => rfl)) (pdC pe_str) (nomark _)) (pwAnd (ptCmp r2NeD (op_neD hr.units) (pdV (pv 2)) (pdLst paNil) (nomark _)) (pwAnd (ptCmp r2EqD (op_eqD hr.units) (pdSl slTD sl_tupA (pdIx r2IxL ix_list (pdV (pv 2)) (pdUn r1Neg un_neg (pdC pe_int)) (fun _ _ => rfl)) poNone (poSome (pdC pe_int))) (pdSl slTD sl_tupA (pdV (pv 5)) poNone (poSome (pdC pe_int))) (nomark _)) (pwAnd1 (ptCmp r2InT (op_inT hr.units65) (pdV (pv 1)) (pdSl slTD sl_tupA (pdV (pv 5)) (poSome (pdC pe_int)) (poSome (pdC pe_int))) (by rfl)))))))) (psOne (psSetX (i := 5) sc_law_joined.nd rfl (Or.inl rfl) (pxOp r2CatT op_catA (pdSl slTD sl_tupA (pdV (pv 5)) poNone (poSome (pdC pe_int))) (pxTup (pxOp r2Add op_add (pdIx r2IxT ix_tup (pdV (pv 5)) (pdC pe_int) (fun _ _ => rfl)) (pxIx r2IxT ix_tup (pxPop (i := 2) (pe_bm0 PySem.F.plainAttrs_list PySem.F.slot_list_pop PySem.F.type_list_pop mt_pop (pv 2))) (pdC pe_int) (fun _ _ => rfl))) paNil)))) psNil)
            (psOne (psApp (by rfl) (pe_bm PySem.F.plainAttrs_list PySem.F.slot_list_append PySem.F.type_list_append mt_append (pv 2) (pa_cons (pdV (pv 5)) pa_nil)))))))))
          (psOne (psRetOwn (pv 2)))))
  case data =>
    rintro rs n Q ⟨es, m, rfl, cc, h⟩
    have hlen := cc.get
    repeat walk_at "d"
    refine ⟨fun i ρ n' => n' = n ∧ ∃ j3 j4 j5, ρ = [.d (dEvts es), .d (.int m), .own (((es.take i).foldl (stepJ m) []).map Evt.dat), j3, j4, j5, .un, .un] ∧ j4.isOwn = false, ⟨rfl, .un, .un, .un, rfl, rfl⟩, ?_, ?_⟩
    · rintro i d ρ n' hd ⟨rfl, j3, j4, j5, rfl, hj⟩
      rw [List.getElem?_map] at hd
      cases he : es[i]? with
      | none => rw [he] at hd; cases hd
      | some e =>
      rw [he] at hd
      cases hd
      have ht : (es.take (i + 1)).foldl (stepJ m) [] = stepJ m ((es.take i).foldl (stepJ m) []) e := by
        rw [List.take_add_one, he, List.foldl_append]
        rfl
      have hf := foldJ14_len m (es.take i) []
      rw [List.length_take] at hf
      dsimp only
      rw [ht]
      have hf2 : ((es.take i).foldl (stepJ m) []).length ≤ 0 + min i es.length := hf
      generalize (es.take i).foldl (stepJ m) [] = f at *
      refine ⟨_, rfl, ?_⟩
      have hJ := tryJ_len m f e
      cases e with
      | trade b s p a =>
        repeat first | refine ⟨_, in_1, ?_⟩ | walk_at "d"
        refine ⟨fun ρ n2 => n2 = n' ∧ ρ = [.d (dEvts es), .d (.int m), .own (f.map Evt.dat), .d (Evt.trade b s p a).dat, .d (.list [.int 1, .int 2]), .d (Evt.trade (rn m b) (rn m s) p a).dat, .un, .un], ?_, ?_⟩
        · repeat walk_at "d"
          refine lcMap [.str "trade", .int (rn m b), .int (rn m s), .int p, .int a] rfl (Nat.le_of_ble_eq_true rfl) (by rw [enumD_len]; rfl) ?_ ?_
          · intro i d y hd hy
            have hi : i < 5 := by
              have := (List.getElem?_eq_some_iff.mp hd).1
              rw [enumD_len] at this
              exact this
            rcases i with _ | _ | _ | _ | _ | i
            rotate_left 5
            · omega
            all_goals (
              cases hd
              cases hy
              refine ⟨_, rfl, fun R kk => ?_⟩
              repeat first | refine ⟨_, in12 _ _ names2, ?_⟩ | walk_at "d"
              first
                | exact kk _ rfl
                | (refine ite2 (fun q => ?_) (fun q => ?_)
                   · repeat walk_at "d"
                     exact kk _ (by unfold rn; rw [if_pos (of_decide_eq_true q)]; rfl)
                   · repeat walk_at "d"
                     exact kk _ (by unfold rn; rw [if_neg (of_decide_eq_false (Bool.eq_false_iff.mpr q))]; rfl)))
          repeat walk_at "d"
          exact ⟨rfl, rfl⟩
        rintro ρ n2 ⟨rfl, rfl⟩
        refine ⟨fun ρ n3 => n3 = n2 ∧ ρ = [.d (dEvts es), .d (.int m), .own ((tryJ m f (.trade b s p a)).1.map Evt.dat), .d (Evt.trade b s p a).dat, .d (.list [.int 1, .int 2]), .d (tryJ m f (.trade b s p a)).2.dat, .un, .un], ?_, ?_⟩
        · rcases List.eq_nil_or_concat f with rfl | ⟨g, l, rfl⟩
          · repeat walk_at "d"
            exact ⟨rfl, rfl⟩
          rw [List.concat_eq_append] at *
          have gl : (g ++ [l]).getLast? = some l := by simp
          have gd : (g ++ [l]).dropLast = g := by simp
          repeat first | refine ⟨_, ne_nilE _, ?_⟩ | walk_at "d"
          refine ifT (by simp) ?_
          repeat first | refine ⟨_, ix_lastE _ _, ?_⟩ | refine ⟨_, cut4 _, ?_⟩ | walk_at "d"
          refine ⟨_, eq4 l (rn m b) (rn m s) p a, ?_⟩
          cases l with
          | trade b' s' p' a' =>
            by_cases hq : b' = rn m b ∧ s' = rn m s ∧ p' = p
            · refine ⟨_, rfl, ?_⟩
              refine ifT (decide_eq_true hq) ?_
              repeat first | refine ⟨_, inNum m (rn m b) (rn m s), ?_⟩ | walk_at "d"
              by_cases hn : rn m b = m ∨ rn m s = m
              · have et : tryJ m (g ++ [.trade b' s' p' a']) (.trade b s p a) = (g, .trade (rn m b) (rn m s) p (a + a')) := by
                  unfold tryJ
                  rw [gl, gd]
                  exact if_pos ⟨hq, hn⟩
                rw [et]
                repeat walk_at "d"
                refine ifT (decide_eq_true hn) ?_
                rw [List.map_append]
                repeat walk_at "d"
                exact ⟨rfl, rfl⟩
              · have et : tryJ m (g ++ [.trade b' s' p' a']) (.trade b s p a) = (g ++ [.trade b' s' p' a'], .trade (rn m b) (rn m s) p a) := by
                  unfold tryJ
                  rw [gl]
                  exact if_neg fun z => hn z.2
                rw [et]
                repeat walk_at "d"
                refine ifN (by rw [decide_eq_false hn]; decide) ?_
                exact ⟨rfl, rfl⟩
            · have et : tryJ m (g ++ [.trade b' s' p' a']) (.trade b s p a) = (g ++ [.trade b' s' p' a'], .trade (rn m b) (rn m s) p a) := by
                unfold tryJ
                rw [gl]
                exact if_neg fun z => hq z.1
              rw [et]
              repeat walk_at "d"
              refine ifN (by show ¬ decide (b' = rn m b ∧ s' = rn m s ∧ p' = p) = true; rw [decide_eq_false hq]; decide) ?_
              repeat walk_at "d"
              exact ⟨rfl, rfl⟩
          | _ =>
            repeat walk_at "d"
            unfold tryJ
            rw [gl]
            exact ⟨rfl, rfl⟩
        rintro ρ n3 ⟨rfl, rfl⟩
        repeat walk_at "d"
        refine ⟨by rw [List.length_map]; omega, rfl, .d (Evt.trade b s p a).dat, .d (.list [.int 1, .int 2]), .d ((tryJ m f (.trade b s p a)).2).dat, ?_, rfl⟩
        unfold stepJ
        rw [List.map_append]
        rfl
      | shown a k =>
        repeat first | refine ⟨_, in_3, ?_⟩ | walk_at "d"
        refine ⟨fun ρ n2 => n2 = n' ∧ ρ = [.d (dEvts es), .d (.int m), .own (f.map Evt.dat), .d (Evt.shown a k).dat, .d (.list [.int 1]), .d (Evt.shown (rn m a) k).dat, .un, .un], ?_, ?_⟩
        · repeat walk_at "d"
          refine lcMap [.str "shown", .int (rn m a), .int k] rfl (Nat.le_of_ble_eq_true rfl) (by rw [enumD_len]; rfl) ?_ ?_
          · intro i d y hd hy
            have hi : i < 3 := by
              have := (List.getElem?_eq_some_iff.mp hd).1
              rw [enumD_len] at this
              exact this
            rcases i with _ | _ | _ | i
            rotate_left 3
            · omega
            all_goals (
              cases hd
              cases hy
              refine ⟨_, rfl, fun R kk => ?_⟩
              repeat first | refine ⟨_, in12 _ _ names1, ?_⟩ | walk_at "d"
              first
                | exact kk _ rfl
                | (refine ite2 (fun q => ?_) (fun q => ?_)
                   · repeat walk_at "d"
                     exact kk _ (by unfold rn; rw [if_pos (of_decide_eq_true q)]; rfl)
                   · repeat walk_at "d"
                     exact kk _ (by unfold rn; rw [if_neg (of_decide_eq_false (Bool.eq_false_iff.mpr q))]; rfl)))
          repeat walk_at "d"
          exact ⟨rfl, rfl⟩
        rintro ρ n2 ⟨rfl, rfl⟩
        refine ⟨fun ρ n3 => n3 = n2 ∧ ρ = [.d (dEvts es), .d (.int m), .own (f.map Evt.dat), .d (Evt.shown a k).dat, .d (.list [.int 1]), .d (Evt.shown (rn m a) k).dat, .un, .un], ?_, ?_⟩
        · repeat walk_at "d"
          exact ⟨rfl, rfl⟩
        rintro ρ n3 ⟨rfl, rfl⟩
        repeat walk_at "d"
        refine ⟨by rw [List.length_map]; omega, rfl, .d (Evt.shown a k).dat, .d (.list [.int 1]), .d (Evt.shown (rn m a) k).dat, ?_, rfl⟩
        unfold stepJ
        rw [List.map_append]
        rfl
      | off a k =>
        repeat first | refine ⟨_, in_4, ?_⟩ | walk_at "d"
        refine ⟨fun ρ n2 => n2 = n' ∧ ρ = [.d (dEvts es), .d (.int m), .own (f.map Evt.dat), .d (Evt.off a k).dat, .d (.list [.int 1]), .d (Evt.off (rn m a) k).dat, .un, .un], ?_, ?_⟩
        · repeat walk_at "d"
          refine lcMap [.str "off", .int (rn m a), .int k, .str "guard"] rfl (Nat.le_of_ble_eq_true rfl) (by rw [enumD_len]; rfl) ?_ ?_
          · intro i d y hd hy
            have hi : i < 4 := by
              have := (List.getElem?_eq_some_iff.mp hd).1
              rw [enumD_len] at this
              exact this
            rcases i with _ | _ | _ | _ | i
            rotate_left 4
            · omega
            all_goals (
              cases hd
              cases hy
              refine ⟨_, rfl, fun R kk => ?_⟩
              repeat first | refine ⟨_, in12 _ _ names1, ?_⟩ | walk_at "d"
              first
                | exact kk _ rfl
                | (refine ite2 (fun q => ?_) (fun q => ?_)
                   · repeat walk_at "d"
                     exact kk _ (by unfold rn; rw [if_pos (of_decide_eq_true q)]; rfl)
                   · repeat walk_at "d"
                     exact kk _ (by unfold rn; rw [if_neg (of_decide_eq_false (Bool.eq_false_iff.mpr q))]; rfl)))
          repeat walk_at "d"
          exact ⟨rfl, rfl⟩
        rintro ρ n2 ⟨rfl, rfl⟩
        refine ⟨fun ρ n3 => n3 = n2 ∧ ρ = [.d (dEvts es), .d (.int m), .own (f.map Evt.dat), .d (Evt.off a k).dat, .d (.list [.int 1]), .d (Evt.off (rn m a) k).dat, .un, .un], ?_, ?_⟩
        · repeat walk_at "d"
          exact ⟨rfl, rfl⟩
        rintro ρ n3 ⟨rfl, rfl⟩
        repeat walk_at "d"
        refine ⟨by rw [List.length_map]; omega, rfl, .d (Evt.off a k).dat, .d (.list [.int 1]), .d (Evt.off (rn m a) k).dat, ?_, rfl⟩
        unfold stepJ
        rw [List.map_append]
        rfl
      | less a b k =>
        repeat first | refine ⟨_, in_2, ?_⟩ | walk_at "d"
        refine ⟨fun ρ n2 => n2 = n' ∧ ρ = [.d (dEvts es), .d (.int m), .own (f.map Evt.dat), .d (Evt.less a b k).dat, .d (.list [.int 1, .int 2]), .d (Evt.less (rn m a) (rn m b) k).dat, .un, .un], ?_, ?_⟩
        · repeat walk_at "d"
          refine lcMap [.str "less", .int (rn m a), .int (rn m b), .int k] rfl (Nat.le_of_ble_eq_true rfl) (by rw [enumD_len]; rfl) ?_ ?_
          · intro i d y hd hy
            have hi : i < 4 := by
              have := (List.getElem?_eq_some_iff.mp hd).1
              rw [enumD_len] at this
              exact this
            rcases i with _ | _ | _ | _ | i
            rotate_left 4
            · omega
            all_goals (
              cases hd
              cases hy
              refine ⟨_, rfl, fun R kk => ?_⟩
              repeat first | refine ⟨_, in12 _ _ names2, ?_⟩ | walk_at "d"
              first
                | exact kk _ rfl
                | (refine ite2 (fun q => ?_) (fun q => ?_)
                   · repeat walk_at "d"
                     exact kk _ (by unfold rn; rw [if_pos (of_decide_eq_true q)]; rfl)
                   · repeat walk_at "d"
                     exact kk _ (by unfold rn; rw [if_neg (of_decide_eq_false (Bool.eq_false_iff.mpr q))]; rfl)))
          repeat walk_at "d"
          exact ⟨rfl, rfl⟩
        rintro ρ n2 ⟨rfl, rfl⟩
        refine ⟨fun ρ n3 => n3 = n2 ∧ ρ = [.d (dEvts es), .d (.int m), .own (f.map Evt.dat), .d (Evt.less a b k).dat, .d (.list [.int 1, .int 2]), .d (Evt.less (rn m a) (rn m b) k).dat, .un, .un], ?_, ?_⟩
        · repeat walk_at "d"
          exact ⟨rfl, rfl⟩
        rintro ρ n3 ⟨rfl, rfl⟩
        repeat walk_at "d"
        refine ⟨by rw [List.length_map]; omega, rfl, .d (Evt.less a b k).dat, .d (.list [.int 1, .int 2]), .d (Evt.less (rn m a) (rn m b) k).dat, ?_, rfl⟩
        unfold stepJ
        rw [List.map_append]
        rfl
    · rintro ρ n' ⟨rfl, j3, j4, j5, rfl, hj⟩
      refine ⟨_, rfl, rfl, ?_⟩
      rw [List.length_map, List.take_length]
      exact h
end

end
section
variable [Tabz]
/-! ### what is put together comes to the whole -/
theorem rn_ne {n x : Int} (h : x ≠ 700) : rn n x = x := if_neg h
theorem clean_step {r : Row} {e : Evt} (h : EvNums (NotR r) e) (f : List Evt) : stepJ r.num f e = f ++ [e] := by
  have et : tryJ r.num f e = (f, e) := by
    cases e with
    | trade b s p a =>
      obtain ⟨⟨b1, b2⟩, s1, s2⟩ := h
      unfold tryJ
      dsimp only
      rw [rn_ne b2, rn_ne s2]
      split
      · rw [if_neg fun z => z.2.elim b1 s1]
      · rfl
    | shown m k =>
      show (f, Evt.shown (rn r.num m) k) = _
      rw [rn_ne h.2]
    | off m k =>
      show (f, Evt.off (rn r.num m) k) = _
      rw [rn_ne h.2]
    | less a b k =>
      obtain ⟨⟨_, h1⟩, _, h2⟩ := h
      show (f, Evt.less (rn r.num a) (rn r.num b) k) = _
      rw [rn_ne h1, rn_ne h2]
  unfold stepJ
  rw [et]
theorem clean_fold {r : Row} : ∀ (E f : List Evt), (∀ e ∈ E, EvNums (NotR r) e) → E.foldl (stepJ r.num) f = f ++ E
  | [], f, _ => (List.append_nil f).symm
  | e :: E, f, h => by
    show E.foldl (stepJ r.num) (stepJ r.num f e) = _
    rw [clean_step (h e List.mem_cons_self), clean_fold E _ fun x hx => h x (List.mem_cons_of_mem _ hx), List.append_assoc]
    rfl
theorem tradeE_form (c : Com) (r : Row) (a : Int) : (c.side = "buy" ∧ tradeE c (r, a) = .trade c.num r.num r.price a) ∨ (c.side ≠ "buy" ∧ tradeE c (r, a) = .trade r.num c.num r.price a) := by
  unfold tradeE
  by_cases h : c.side = "buy"
  · rw [if_pos h]; exact .inl ⟨h, rfl⟩
  · rw [if_neg h]; exact .inr ⟨h, rfl⟩
theorem first_step {c : Com} {r : Row} (hc : NotR r c.num) (hr : r.num ≠ 700) {E : List Evt} (hE : ∀ e ∈ E, EvNums (NotR r) e) (a : Int) : stepJ r.num E (tradeE c (r, a)) = E ++ [tradeE c (r, a)] := by
  have key : ∀ b s, (b = r.num ∨ s = r.num) → b ≠ 700 → s ≠ 700 → tryJ r.num E (.trade b s r.price a) = (E, .trade b s r.price a) := fun b s hb b7 s7 => by
    unfold tryJ
    dsimp only
    rw [rn_ne b7, rn_ne s7]
    split
    · rename_i b' s' p' a' hl
      have hm : Evt.trade b' s' p' a' ∈ E := List.mem_of_getLast? hl
      obtain ⟨⟨h1, _⟩, h2, _⟩ := hE _ hm
      rw [if_neg]
      rintro ⟨⟨e1, e2, _⟩, _⟩
      rcases hb with z | z
      · exact h1 (e1.trans z)
      · exact h2 (e2.trans z)
    · rfl
  unfold stepJ
  rcases tradeE_form c r a with ⟨_, e⟩ | ⟨_, e⟩
  · rw [e, key _ _ (.inr rfl) hc.2 hr]
  · rw [e, key _ _ (.inl rfl) hr hc.2]
theorem second_step {c : Com} {r : Row} (hc : NotR r c.num) (hr : r.num ≠ 700) (E : List Evt) (a b : Int) : stepJ r.num (E ++ [tradeE c (r, a)]) (tradeE c ({ r with num := 700 }, b)) = E ++ [tradeE c (r, a + b)] := by
  have r7 : rn r.num 700 = r.num := if_pos rfl
  unfold stepJ
  rcases tradeE_form c r a with ⟨hs, e⟩ | ⟨hs, e⟩
  · have e2 : tradeE c ({ r with num := 700 }, b) = .trade c.num 700 r.price b := by unfold tradeE; rw [if_pos hs]
    have e3 : tradeE c (r, a + b) = .trade c.num r.num r.price (a + b) := by unfold tradeE; rw [if_pos hs]
    rw [e, e2, e3]
    unfold tryJ
    dsimp only
    rw [rn_ne hc.2, r7, show (E ++ [Evt.trade c.num r.num r.price a]).getLast? = some (.trade c.num r.num r.price a) by simp]
    dsimp only
    rw [if_pos ⟨⟨rfl, rfl, rfl⟩, .inr rfl⟩, show (E ++ [Evt.trade c.num r.num r.price a]).dropLast = E by simp, Int.add_comm b a]
  · have e2 : tradeE c ({ r with num := 700 }, b) = .trade 700 c.num r.price b := by unfold tradeE; rw [if_neg hs]
    have e3 : tradeE c (r, a + b) = .trade r.num c.num r.price (a + b) := by unfold tradeE; rw [if_neg hs]
    rw [e, e2, e3]
    unfold tryJ
    dsimp only
    rw [rn_ne hc.2, r7, show (E ++ [Evt.trade r.num c.num r.price a]).getLast? = some (.trade r.num c.num r.price a) by simp]
    dsimp only
    rw [if_pos ⟨⟨rfl, rfl, rfl⟩, .inl rfl⟩, show (E ++ [Evt.trade r.num c.num r.price a]).dropLast = E by simp, Int.add_comm b a]
theorem joined_whole {c : Com} {r : Row} (hc : NotR r c.num) (hr : r.num ≠ 700) {fin fin' : MSt × Bool} (O : TwOut c r [] fin fin') : fin'.1.evts.foldl (stepJ r.num) [] = fin.1.evts := by
  obtain ⟨E1, mid, mid', E2, h1, h2, h3, h4, h5⟩ := O.ev
  rw [h1, h2, List.nil_append, List.append_assoc, List.foldl_append, clean_fold E1 [] h3, List.nil_append, List.foldl_append]
  have e : mid'.foldl (stepJ r.num) E1 = E1 ++ mid := by
    rcases h5 with ⟨rfl, rfl⟩ | ⟨a, rfl, rfl⟩ | ⟨a, b, rfl, rfl⟩
    · exact (List.append_nil _).symm
    · exact first_step hc hr h3 a
    · show stepJ r.num (stepJ r.num E1 (tradeE c (r, a))) _ = _
      rw [first_step hc hr h3 a, second_step hc hr]
  rw [e, clean_fold E2 _ h4]
/-! what is left, by number -/
theorem minM_comm (a b c : Int) : minM (minM a b) c = minM (minM a c) b := by
  unfold minM
  repeat' split
  all_goals omega
theorem agS_comm (o : Int × Int × Int) (x y : Row) : agS (agS o x) y = agS (agS o y) x := by
  unfold agS
  rw [minM_comm]
  congr 1
  · show o.1 + x.left + y.left = o.1 + y.left + x.left
    omega
  · congr 1
    show o.2.1 + x.seen + y.seen = o.2.1 + y.seen + x.seen
    omega
theorem agg_perm {a b : List Row} (p : a.Perm b) : agg a = agg b := p.foldl_eq' (fun x _ y _ z => agS_comm z x y) _
def fltN (n j : Int) (rows : List Row) : List Row := rows.filter fun r => decide (keyN n r = j)
theorem foldL_val (n : Int) : ∀ (rows : List Row) (kvs : List (Key × PyData)) (j : Int), valD (rows.foldl (putL n) kvs) (.inl j) =
    (if (fltN n j rows).isEmpty = true then valD kvs (.inl j) else some (d3 ((fltN n j rows).foldl agS (ag3 ((valD kvs (.inl j)).getD (d3 (0, 0, 10 ^ 9)))))))
  | [], _, _ => rfl
  | r :: rows, kvs, j => by
    show valD (rows.foldl (putL n) (putL n kvs r)) (.inl j) = _
    rw [foldL_val n rows (putL n kvs r) j]
    have ev : valD (putL n kvs r) (.inl j) = if keyN n r = j then some (d3 (agS (ag3 ((valD kvs (.inl j)).getD (d3 (0, 0, 10 ^ 9)))) r)) else valD kvs (.inl j) := by
      unfold putL
      rw [valD_put]
      by_cases h : keyN n r = j
      · rw [if_pos (by rw [h]), if_pos h, h]
      · rw [if_neg (fun z => h (Sum.inl.inj z).symm), if_neg h]
    rw [ev]
    by_cases h : keyN n r = j
    · have ef : fltN n j (r :: rows) = r :: fltN n j rows := List.filter_cons_of_pos (decide_eq_true h)
      rw [if_pos h, ef]
      show _ = (if false = true then _ else _)
      rw [if_neg Bool.false_ne_true]
      by_cases q : (fltN n j rows).isEmpty = true
      · rw [if_pos q, List.isEmpty_iff.mp q]
        rfl
      · rw [if_neg q]
        rfl
    · have ef : fltN n j (r :: rows) = fltN n j rows := List.filter_cons_of_neg (by rw [decide_eq_false h]; decide)
      rw [if_neg h, ef]
theorem leftD_val (n j : Int) (rows : List Row) : valD (leftD n rows) (.inl j) = if (fltN n j rows).isEmpty = true then none else some (d3 (agg (fltN n j rows))) := foldL_val n rows [] j
theorem foldL_str (n : Int) (x : Str) : ∀ (rows : List Row) (kvs : List (Key × PyData)), valD (rows.foldl (putL n) kvs) (.inr x) = valD kvs (.inr x)
  | [], _ => rfl
  | r :: rows, kvs => by
    show valD (rows.foldl (putL n) (putL n kvs r)) (.inr x) = _
    rw [foldL_str n x rows]
    unfold putL
    rw [valD_put, if_neg (fun z => nomatch z)]
def NoD (kvs : List (Key × PyData)) : Prop := (kvs.map (·.1)).Nodup
theorem any_key {kvs : List (Key × PyData)} {k : Key} : (kvs.any fun kv => decide (kv.1 = k)) = true ↔ k ∈ kvs.map (·.1) := by
  rw [List.any_eq_true, List.mem_map]
  exact ⟨fun ⟨x, h1, h2⟩ => ⟨x, h1, of_decide_eq_true h2⟩, fun ⟨x, h1, h2⟩ => ⟨x, h1, decide_eq_true h2⟩⟩
theorem NoD.put {kvs : List (Key × PyData)} (h : NoD kvs) (k : Key) (d : PyData) : NoD (putKD kvs k d) := by
  unfold NoD putKD
  by_cases q : (kvs.any fun kv => decide (kv.1 = k)) = true
  · rw [if_pos q, List.map_map]
    have e : ((fun x : Key × PyData => x.1) ∘ fun kv : Key × PyData => if kv.1 = k then (kv.1, d) else kv) = fun x : Key × PyData => x.1 := by
      funext kv
      show (if kv.1 = k then (kv.1, d) else kv).1 = kv.1
      split <;> rfl
    rw [e]
    exact h
  · rw [if_neg q, List.map_append]
    refine List.nodup_append.mpr ⟨h, by simp, fun a ha b hb e => ?_⟩
    have hb' : b = k := by simpa using hb
    subst e
    rw [hb'] at ha
    exact q (any_key.mpr ha)
theorem foldL_nod (n : Int) : ∀ (rows : List Row) (kvs : List (Key × PyData)), NoD kvs → NoD (rows.foldl (putL n) kvs)
  | [], _, h => h
  | r :: rows, kvs, h => foldL_nod n rows _ (h.put _ _)
theorem NoD.val : ∀ {kvs : List (Key × PyData)}, NoD kvs → ∀ p ∈ kvs, valD kvs p.1 = some p.2
  | [], _, p, hp => by cases hp
  | q :: kvs, h, p, hp => by
    obtain ⟨h1, h2⟩ := List.nodup_cons.mp (show (q.1 :: kvs.map (·.1)).Nodup from h)
    unfold valD
    rw [List.find?_cons]
    rcases List.mem_cons.mp hp with e | e
    · rw [e, decide_eq_true rfl]
      rfl
    · have ne : ¬ q.1 = p.1 := fun z => h1 (z ▸ List.mem_map.mpr ⟨p, e, rfl⟩)
      rw [decide_eq_false ne]
      exact NoD.val h2 p e
theorem val_key {kvs : List (Key × PyData)} {k : Key} : (valD kvs k).isSome = true ↔ k ∈ kvs.map (·.1) := by
  unfold valD
  rw [Option.isSome_map, List.find?_isSome, List.mem_map]
  exact ⟨fun ⟨x, h1, h2⟩ => ⟨x, h1, of_decide_eq_true h2⟩, fun ⟨x, h1, h2⟩ => ⟨x, h1, decide_eq_true h2⟩⟩
theorem same_len {ks ls : List (Key × PyData)} (h1 : NoD ks) (h2 : NoD ls) (h : ∀ k, valD ks k = valD ls k) : ks.length = ls.length := by
  have p : (ks.map (·.1)).Perm (ls.map (·.1)) := (List.perm_ext_iff_of_nodup h1 h2).mpr fun k => by rw [← val_key, ← val_key, h k]
  have := p.length_eq
  rwa [List.length_map, List.length_map] at this
theorem d3_ok (t : Int × Int × Int) : PySem.W.alike (d3 t) (d3 t) = true ∧ SeqAt.shaped (d3 t) = true ∧ (d3 t).depth ≤ 10 := by
  refine ⟨by simp [d3, PySem.W.alike, PySem.W.alikeAll], ?_, by simp [d3, PyData.depth, PyData.depthAll]⟩
  unfold SeqAt.shaped
  simp only [d3, PyData.canLay0, PyData.canLayAll0, PyData.depth, PyData.depthAll]
  first | rfl | simp
theorem left_same {r : Row} {A B X Rs Rs' : List Row} (pA : A.Perm (X ++ Rs)) (pB : B.Perm (X ++ Rs')) (hX : ∀ x ∈ X, NotR r x.num) (hr : r.num ≠ 700) (hR : RsOk r Rs Rs') :
    (leftD r.num B).length = (leftD r.num A).length ∧ ∀ p ∈ leftD r.num B, valD (leftD r.num A) p.1 = some p.2 ∧ PySem.W.alike p.2 p.2 = true ∧ SeqAt.shaped p.2 = true ∧ p.2.depth ≤ 10 := by
  have nA := foldL_nod r.num A [] List.nodup_nil
  have nB := foldL_nod r.num B [] List.nodup_nil
  have kX : ∀ x ∈ X, keyN r.num x = x.num := fun x hx => if_neg (hX x hx).2
  have kR : ∀ x ∈ Rs, keyN r.num x = r.num := fun x hx => by
    unfold keyN
    rw [hR.n x hx]
    split <;> rfl
  have kR' : ∀ x ∈ Rs', keyN r.num x = r.num := fun x hx => by
    unfold keyN
    rcases hR.n' x hx with z | z <;> rw [z]
    · split <;> rfl
    · exact if_pos rfl
  have all : ∀ k, valD (leftD r.num B) k = valD (leftD r.num A) k := fun k => by
    cases k with
    | inr x => exact (foldL_str r.num x B []).trans (foldL_str r.num x A []).symm
    | inl j =>
      have fA : (fltN r.num j A).Perm (fltN r.num j (X ++ Rs)) := pA.filter _
      have fB : (fltN r.num j B).Perm (fltN r.num j (X ++ Rs')) := pB.filter _
      have app : ∀ L, fltN r.num j (X ++ L) = fltN r.num j X ++ fltN r.num j L := fun L => List.filter_append ..
      rw [leftD_val, leftD_val, agg_perm fA, agg_perm fB]
      have emp : ∀ {a b : List Row}, a.Perm b → a.isEmpty = b.isEmpty := fun {a b} p => by
        have := p.length_eq
        cases a <;> cases b <;> simp_all
      rw [emp fA, emp fB, app, app]
      by_cases hj : j = r.num
      · have eX : fltN r.num j X = [] := List.filter_eq_nil_iff.mpr fun x hx z => (hX x hx).1 (by rw [← kX x hx]; exact (of_decide_eq_true z).trans hj)
        have eR : fltN r.num j Rs = Rs := List.filter_eq_self.mpr fun x hx => decide_eq_true ((kR x hx).trans hj.symm)
        have eR' : fltN r.num j Rs' = Rs' := List.filter_eq_self.mpr fun x hx => decide_eq_true ((kR' x hx).trans hj.symm)
        rw [eX, eR, eR', List.nil_append, List.nil_append, hR.a]
        have ee : Rs'.isEmpty = Rs.isEmpty := by
          have := hR.e
          cases Rs <;> cases Rs' <;> simp_all
        rw [ee]
      · have eR : fltN r.num j Rs = [] := List.filter_eq_nil_iff.mpr fun x hx z => hj ((of_decide_eq_true z).symm.trans (kR x hx))
        have eR' : fltN r.num j Rs' = [] := List.filter_eq_nil_iff.mpr fun x hx z => hj ((of_decide_eq_true z).symm.trans (kR' x hx))
        rw [eR, eR']
  refine ⟨same_len nB nA all, fun p hp => ?_⟩
  have e : valD (leftD r.num B) p.1 = some p.2 := nB.val p hp
  have e2 := e
  rw [all p.1] at e
  obtain ⟨t, ht⟩ := leftD_all r.num B [] (fun k v e => (by cases e)) p.1 p.2 e2
  obtain ⟨a1, a2, a3⟩ := d3_ok t
  exact ⟨e, by rw [ht]; exact a1, by rw [ht]; exact a2, by rw [ht]; exact a3⟩

end
section
variable [Tabz]
local macro_rules | `(tactic| walk_at "d") => `(tactic| first | refine Or.inl ⟨_, rfl, ?_⟩ | refine Or.inr ⟨rfl, ?_⟩ | refine ⟨Nat.le_of_ble_eq_true rfl, ?_⟩ | refine ⟨⟨_, rfl⟩, ?_⟩ | refine ⟨_, rfl, ?_⟩ | refine ⟨_, _, rfl, ?_⟩ | refine ⟨_, _, _, rfl, ?_⟩ | refine ⟨_, _, _, _, rfl, ?_⟩)
/-! ### the law -/
def spLaw (K : PySem.W.Frag) : Sp := fun vs H Q _ => ∃ (a : Addr) (ns : List Int), vs = [.ref a] ∧ SqL K H a (ns.map V.int) ∧ ns.length ≤ 63 ∧ LamX.Tabs Tabz.T H ∧ ∀ H', Q (.bl true) H'
section
variable {P : Program} {w : World} {K : PySem.W.Frag} {mg : Str → Option Value} {base : Heap}
theorem cut_take3 (ns : List Str) (k : Nat) (hk : 0 < k) : cutD (ns.map PyData.str) none (some (k : Int)) = (ns.take k).map PyData.str := by
  unfold cutD
  rw [HT.sIx_nat, HT.sIx_none, List.drop_zero, Nat.sub_zero, List.length_map, List.map_take]
  rw [← List.take_take, List.take_of_length_le (l := ns.map PyData.str) (by rw [List.length_map]; exact Nat.le_refl _)]
theorem Phi21 {rs : List Row} (h : ∀ r ∈ rs, phi r ≤ 21) : Phi rs ≤ 21 * rs.length := by
  induction rs with
  | nil => exact Nat.le_refl _
  | cons r rs ih =>
    have h1 := h r List.mem_cons_self
    have h2 := ih fun x hx => h x (List.mem_cons_of_mem _ hx)
    show phi r + Phi rs ≤ 21 * (rs.length + 1)
    omega
theorem rank_in {rows : List Row} {r : Row} (h : r ∈ rankM rows) : r ∈ rows := by
  unfold rankM sideM at h
  rcases List.mem_append.mp h with h | h
  · exact (List.mem_filter.mp (List.mem_mergeSort.mp h)).1
  · exact (List.mem_filter.mp (List.mem_mergeSort.mp h)).1
theorem rank_le (rows : List Row) : (rankM rows).length ≤ 2 * rows.length := by
  unfold rankM sideM
  rw [List.length_append, List.length_mergeSort, List.length_mergeSort]
  have l1 := List.length_filter_le (fun r : Row => decide (r.side = "buy")) rows
  have l2 := List.length_filter_le (fun r : Row => decide (r.side = "sell")) rows
  omega
theorem ne_same {d : PyData} (h : SeqAt.shaped d = true) : opNeD d d = some (.d (.bool false)) := by
  have hs : opNeD d d = some (.d (.bool (!PyData.eqv d d))) := if_pos ⟨h, h⟩
  rw [hs, SeqAt.eqv_refl _ (SeqAt.canLay_of_shaped h)]
  rfl
theorem kw_meet : KwOk (fun vs zs => vs ++ zs ++ [V.str "rank"]) (fun rs ks => rs ++ ks ++ [DV.d (.str "rank")]) := by
  intro t B H H' vs zs rs ks h1 h2
  have app : ∀ {vs zs : List V} {rs ks : List DV}, VsOk t B H H' vs rs → VsOk t B H H' zs ks → VsOk t B H H' (vs ++ zs) (rs ++ ks) := by
    intro vs zs rs ks h1 h2
    induction h1 with
    | nil => exact h2
    | cons a b _ ih => exact .cons a b ih
  exact app (app h1 h2) (.cons (Rp.str _) rfl .nil)
theorem kw_rank (D : Addr) (doc pm : Value) (an : Option Addr) (cdv ct u0 u1 m0 w0 w1 w2 : Value) : KwChain D [("rule", m0)] (PySem.bindArgs (PySem.W.fnOf "plain_meet" "plain_meet" (defArgs s_plain_meet) (defBody s_plain_meet) (defScope s_plain_meet) .none (.ref D) doc pm an cdv ct) ⟨[u0, u1], [("rank", w0), ("band", w1), ("anchor", w2)]⟩) [("rows", u0), ("coming", u1), ("rank", w0), ("band", w1), ("anchor", w2), ("rule", m0)] := by
  first
    | exact ⟨_, _, _, _, _, _, rfl, rfl, rfl⟩
    | with_unfolding_all exact ⟨_, _, _, _, _, _, rfl, rfl, rfl⟩
theorem eq_nilR (rs : List Row) (h : ∀ r ∈ rs, RowOk r) : opEqD (.list (rs.map Row.dat)) (.list []) = some (.d (.bool rs.isEmpty)) := by
  have hs : opEqD (.list (rs.map Row.dat)) (.list []) = some (.d (.bool (PyData.eqv (.list (rs.map Row.dat)) (.list [])))) := if_pos ⟨rows_shaped h, rows_shaped (rs := []) fun r hr => (by cases hr)⟩
  rw [hs]
  cases rs <;> simp [PyData.eqv, PyData.eqvAll]
theorem ne_rows {x r : Row} (hx : RowOk x) (hr : RowOk r) : opNeD x.dat r.dat = some (.d (.bool (!PyData.eqv x.dat r.dat))) := if_pos ⟨Row.shaped hx, Row.shaped hr⟩
theorem parted_perm {rows : List Row} {r : Row} (hr : r ∈ rows) (nd : rows.Nodup) : rows.Perm (rows.filter (fun x => !PyData.eqv x.dat r.dat) ++ [r]) := by
  have p := List.filter_append_perm (fun x : Row => !PyData.eqv x.dat r.dat) rows
  refine p.symm.trans (List.Perm.append_left _ ?_)
  have one : ∀ {l : List Row}, l.Nodup → r ∈ l → l.filter (fun x : Row => !(!PyData.eqv x.dat r.dat)) = [r] := by
    intro l
    induction l with
    | nil => intro _ h; cases h
    | cons y l ih =>
      intro nd h
      obtain ⟨n1, n2⟩ := List.nodup_cons.mp nd
      by_cases e : y = r
      · subst e
        have none : l.filter (fun x : Row => !(!PyData.eqv x.dat y.dat)) = [] := List.filter_eq_nil_iff.mpr fun x hx z => by
          rw [Bool.not_not] at z
          rw [(eqv_row x y).mp z] at hx
          exact n1 hx
        rw [List.filter_cons_of_pos (by rw [Bool.not_not]; exact (eqv_row y y).mpr rfl), none]
      · have hl : r ∈ l := (List.mem_cons.mp h).resolve_left fun z => e z.symm
        rw [List.filter_cons_of_neg (by rw [Bool.not_not]; exact fun z => e ((eqv_row y r).mp z))]
        exact ih n2 hl
  rw [one nd hr]
theorem tw_ur {rows X : List Row} {r : Row} {f K : Int} (hX : ∀ x ∈ X, x ∈ rows ∧ x ≠ r) (hr : r ∈ rows) (u : UR rows K) (ev : ∀ x ∈ rows, x.rank % 2 = 0) (hK : K % 2 = 0) : UR (X ++ [r1M r f, r2M r f]) K := by
  have inT : ∀ x ∈ X ++ [r1M r f, r2M r f], (x ∈ rows ∧ x ≠ r) ∨ x = r1M r f ∨ x = r2M r f := fun x hx => by
    rcases List.mem_append.mp hx with z | z
    · exact .inl (hX x z)
    · exact .inr (by simpa using z)
  have er := ev r hr
  have kr := u.2 r hr
  have n1 : ∀ x, x ∈ rows → x ≠ r → x.rank ≠ r.rank := fun x hx ne e => ne (u.1 x hx r hr e)
  refine ⟨fun x hx y hy e => ?_, fun x hx => ?_⟩
  · rcases inT x hx with z | z | z <;> rcases inT y hy with z2 | z2 | z2
    · exact u.1 x z.1 y z2.1 e
    · rw [z2] at e
      exact absurd e (n1 x z.1 z.2)
    · rw [z2] at e
      have e' : x.rank = r.rank + 1 := e
      have := ev x z.1
      omega
    · rw [z] at e
      exact absurd e.symm (n1 y z2.1 z2.2)
    · rw [z, z2]
    · rw [z, z2] at e
      have e' : r.rank = r.rank + 1 := e
      omega
    · rw [z] at e
      have e' : r.rank + 1 = y.rank := e
      have := ev y z2.1
      omega
    · rw [z, z2] at e
      have e' : r.rank + 1 = r.rank := e
      omega
    · rw [z, z2]
  · rcases inT x hx with z | z | z
    · exact u.2 x z.1
    · rw [z]; exact kr
    · rw [z]
      show r.rank + 1 < K
      omega
theorem meet_inv14 {B : Nat} {c : Com} (hg : GuardOk c.guard) {band : Option Int} {a : Int} : ∀ {k : Nat} {st : MSt} {fin : MSt × Bool}, MOk B st → meetF c band a "rank" k st = some fin → MOk B fin.1
  | 0, _, _, _, e => by cases e
  | k + 1, st, fin, ok, e => by
    unfold meetF at e
    by_cases q : 0 < st.left
    · rw [if_pos q] at e
      cases hmet : metM st.rows (agM c.side) "rank" with
      | nil =>
        rw [hmet] at e
        cases e
        exact ok
      | cons m tl =>
        rw [hmet] at e
        dsimp only at e
        have hA := (next_ok (c := c) ok hmet q hg).1
        split at e
        · split at e
          · cases e
            exact ok
          · exact meet_inv14 hg hA e
        · cases e
          exact ok
    · rw [if_neg q] at e
      cases e
      exact ok
theorem tail_shaped (l k : Int) (b : Bool) : SeqAt.shaped (.tuple [.int l, .bool b, .int k]) = true := by
  unfold SeqAt.shaped
  simp only [PyData.canLay0, PyData.canLayAll0, PyData.depth, PyData.depthAll]
  first | rfl | simp
def pD (who : Str) : PyData → Bool
  | .tuple [_, .str w, _, _, pt, .int l, _, _] => isN pt && (!decide (w = who) && decide (1 < l))
  | _ => false
abbrev s_law : Stmt := topS 34
theorem sc_law : FnScope ["script", "k", "purse", "way", "names", "rows", "stamp", "turn", "coming", "near", "width", "some", "row", "first", "pair", "twins", "told", "found", "one"] ["script"] (defScope s_law) := ⟨rfl, rfl, rfl, by decide +kernel, rfl, by decide +kernel, by decide +kernel⟩
theorem ok_law {f : Addr} {fd : FuncData} (F : Fun K "law" "law" s_law f fd) (T : Txt mg) (c_purse : Cal P w K mg base 1 "_law_purse" ["script", "k"] (spPurse K)) (c_coin : Cal P w K mg base 1 "_law_coin" ["purse", "many"] (spD mCoin))
    (c_names : Cal P w K mg base 2 "_law_names" ["purse", "many"] (spD mNames)) (c_level : Cal P w K mg base 2 "_law_level" ["purse", "way"] (spD mLevel)) (c_rows : Cal P w K mg base 3 "_law_rows" ["purse", "names", "many", "way"] (spD mRows)) (c_coming : Cal P w K mg base 3 "_law_coming" ["purse", "names", "way"] (spD mComing))
    (c_spaced : Cal P w K mg base 1 "_law_spaced" ["row"] (spD mSpaced)) (c_joined : Cal P w K mg base 1 "_law_joined" ["events", "number"] (spD mJoin14)) (c_left : Cal P w K mg base 1 "_law_left" ["rows", "number"] (spD mLeft))
    (c_plain_meet : ∃ (f : Addr) (fd : FuncData), FnOk P w K mg base CX0 5 f fd ["rows", "coming", "rank", "band", "anchor", "rule"] (spD mMeetA) ∧ mg "plain_meet" = some (.ref f) ∧ PySem.W.keepIn K (.ref f) = true ∧ ∃ gW : List Value → List Value → List Value, KBn K fd ["rows", "coming", "rank", "band", "anchor", "rule"] 2 ["rank", "band", "anchor"] gW (fun vs zs => vs ++ zs ++ [V.str "rank"])) : FnOk P w K mg base CX0 6 f fd ["script"] (spLaw K) := by
  refine F.ok sc_law (fun vs H Q E h => ?_) (fun cdv A outer s H vs Q E hr h => ?_)
  · obtain ⟨a, ns, rfl, _⟩ := h
    rfl
  · obtain ⟨a, ns, rfl, hS, hlen, hT, k⟩ := h
    obtain ⟨f_coin, fd_coin, G_coin, m_coin, k_coin, b_coin⟩ := c_coin
    obtain ⟨f_coming, fd_coming, G_coming, m_coming, k_coming, b_coming⟩ := c_coming
    obtain ⟨f_joined, fd_joined, G_joined, m_joined, k_joined, b_joined⟩ := c_joined
    obtain ⟨f_left, fd_left, G_left, m_left, k_left, b_left⟩ := c_left
    obtain ⟨f_level, fd_level, G_level, m_level, k_level, b_level⟩ := c_level
    obtain ⟨f_names, fd_names, G_names, m_names, k_names, b_names⟩ := c_names
    obtain ⟨f_purse, fd_purse, G_purse, m_purse, k_purse, b_purse⟩ := c_purse
    obtain ⟨f_rows, fd_rows, G_rows, m_rows, k_rows, b_rows⟩ := c_rows
    obtain ⟨f_spaced, fd_spaced, G_spaced, m_spaced, k_spaced, b_spaced⟩ := c_spaced
    obtain ⟨f_plain_meet, fd_plain_meet, G_plain_meet, m_plain_meet, k_plain_meet, b_plain_meet⟩ := c_plain_meet
    refine ⟨_, (pss_cons (ps_for PassesOwn.never rfl (pi_range1 rfl T.b_range (pa_cons (pe_callB (call_max2 rfl) (by rfl) T.b_max (by decide +kernel) (pa_cons pe_int (pa_cons (pe_callB (call_min2 rfl) (by rfl) T.b_min (by decide +kernel) (pa_cons pe_int (pa_cons (pe_callB call_len_seq (by rfl) T.b_len PySem.boot_len (pa_cons (pv 0) pa_nil)) pa_nil))) pa_nil))) pa_nil)) (pg_name (i := 1) sc_law.nd rfl (Or.inl rfl))
          (pss_cons (ps_set (i := 2) sc_law.nd rfl (Or.inl rfl) (pe_call G_purse (hr.mono (by decide)) rfl m_purse k_purse b_purse .nil pass0 (pa_cons (pv 0) (pa_cons (pv 1) pa_nil))))
            (psCons (psSet (i := 3) sc_law.nd rfl (Or.inl rfl) (pdCall (fun _ _ _ q => (L_coin _ _ _ q).1) G_coin (hr.mono (by decide)) (by rfl) m_coin k_coin b_coin pass0 (paCons (pdV (pv 2)) (paCons (pdC pe_int) paNil))))
            (psCons (psSet (i := 4) sc_law.nd rfl (Or.inl rfl) (pdCall (fun _ _ _ q => (L_names _ _ _ q).1) G_names (hr.mono (by decide)) (by rfl) m_names k_names b_names pass0 (paCons (pdV (pv 2)) (paCons (pdOp r2Add op_add (pdC pe_int) (pdCall (fun _ _ _ q => (L_coin _ _ _ q).1) G_coin (hr.mono (by decide)) (by rfl) m_coin k_coin b_coin pass0 (paCons (pdV (pv 2)) (paCons (pdC pe_int) paNil)))) paNil))))
            (psFrz 4 (psCons (psAsg (pdCall (fun _ _ _ q => (L_rows _ _ _ q).1) G_rows (hr.mono (by decide)) (by rfl) m_rows k_rows b_rows pass0 (paCons (pdV (pv 2)) (paCons (pdSl slLD sl_list (pdV (pv 4)) poNone (poSome (pdC pe_int))) (paCons (pdOp r2Add op_add (pdC pe_int) (pdCall (fun _ _ _ q => (L_coin _ _ _ q).1) G_coin (hr.mono (by decide)) (by rfl) m_coin k_coin b_coin pass0 (paCons (pdV (pv 2)) (paCons (pdC pe_int) paNil)))) (paCons (pdV (pv 3)) paNil))))) (pgTup (n := 2) rfl (pgCons (pgN (pg_name (i := 5) sc_law.nd rfl (Or.inl rfl))) (pgCons (pgN (pg_name (i := 6) sc_law.nd rfl (Or.inl rfl))) pgNil))))
            (psCons ((ps_setLc (i := 5) (own := [("row", 12)]) (tt := tYes) rfl sc_law.nd rfl rfl (sw_true rfl rfl rfl (by decide +kernel)) (piList (pdV (pv 5))) (blkOk_by (N := ["script", "k", "purse", "way", "names", "rows", "stamp", "turn", "coming", "near", "width", "some", "row", "first", "pair", "twins", "told", "found", "one"]) (sc := defScope s_law) (by decide +kernel)) (fun _ _ _ _ _ => (pgN (pg_name (i := 12) sc_law.nd rfl (Or.inl rfl)))) (fun _ _ _ _ _ => pts_nil) (fun _ _ _ _ _ => (pdCall (fun _ _ _ q => (L_spaced _ _ _ q).1) G_spaced (hr.mono (by decide)) (by rfl) m_spaced k_spaced b_spaced pass0 (paCons (pdV (pv 12)) paNil)))).imp (set_le2 (lc_le (by decide) yes_le)))
            (psFrz 5 (psOne (psFor PassesOwn.never rfl (piRng (pi_range1 (by rfl) T.b_range (paCons (pdC pe_int) paNil))) (pgN (pg_name (i := 7) sc_law.nd rfl (Or.inl rfl)))
             (psCons (psSet (i := 8) sc_law.nd rfl (Or.inr rfl) (pdCall (fun _ _ _ q => (L_coming _ _ _ q).1) G_coming (hr.mono (by decide)) (by rfl) m_coming k_coming b_coming pass0 (paCons (pdV (pv 2)) (paCons (pdV (pv 4)) (paCons (pdV (pv 3)) paNil)))))
              (psCons (psSet (i := 9) sc_law.nd rfl (Or.inl rfl) (pdCall (fun _ _ _ q => (L_level _ _ _ q).1) G_level (hr.mono (by decide)) (by rfl) m_level k_level b_level pass0 (paCons (pdV (pv 2)) (paCons (pdV (pv 3)) paNil))))
              (psCons (psSet (i := 10) sc_law.nd rfl (Or.inl rfl) (pdIx r2IxL ix_list (pdLst (paCons (pdC pe_non) (paCons (pdCall (fun _ _ _ q => (L_coin _ _ _ q).1) G_coin (hr.mono (by decide)) (by rfl) m_coin k_coin b_coin pass0 (paCons (pdV (pv 2)) (paCons (pdC pe_int) paNil))) paNil))) (pdCall (fun _ _ _ q => (L_coin _ _ _ q).1) G_coin (hr.mono (by decide)) (by rfl) m_coin k_coin b_coin pass0 (paCons (pdV (pv 2)) (paCons (pdC pe_int) paNil))) (fun _ _ => rfl)))
              (psCons ((ps_setLc (i := 11) (own := [("row", 12)]) rfl sc_law.nd rfl rfl (sw_true rfl rfl rfl (by decide +kernel)) (piList (pdV (pv 5))) (blkOk_by (N := ["script", "k", "purse", "way", "names", "rows", "stamp", "turn", "coming", "near", "width", "some", "row", "first", "pair", "twins", "told", "found", "one"]) (sc := defScope s_law) (by decide +kernel)) (fun _ _ _ _ _ => (pgN (pg_name (i := 12) sc_law.nd rfl (Or.inl rfl)))) (fun _ _ _ _ _ => (pts_one (PW.pt (pwAnd (ptCmp r2IsN op_isN (pdIx r2IxT ix_tup (pdV (pv 12)) (pdC pe_int) (fun _ _ => rfl)) (pdC pe_non) (nomark _)) (pwAnd (ptCmp r2Ne op_ne (pdIx r2IxT ix_tup (pdV (pv 12)) (pdC pe_int) (fun _ _ => rfl)) (pdIx r2IxT ix_tup (pdV (pv 8)) (pdC pe_int) (fun _ _ => rfl)) (nomark _)) (pwAnd1 (ptCmp r2Gt op_gt (pdIx r2IxT ix_tup (pdV (pv 12)) (pdC pe_int) (fun _ _ => rfl)) (pdC pe_int) (nomark _)))))))) (fun _ _ _ _ _ => (pdV (pv 12)))).imp (set_le2 (lc_le (by decide) (fun _ _ _ q => q))))
              (psFrz 11 (psCons (psIf (ptCmp r2EqD (op_eqD hr.units) (pdV (pv 11)) (pdLst paNil) (nomark _)) (psOne psCnt) psNil)
              (psCons (psSet (i := 12) sc_law.nd rfl (Or.inr rfl) (pdIx r2IxL ix_list (pdV (pv 11)) (pdCall (fun _ _ _ q => (L_coin _ _ _ q).1) G_coin (hr.mono (by decide)) (by rfl) m_coin k_coin b_coin pass0 (paCons (pdV (pv 2)) (paCons (pdB rsLen call_len_seq (by rfl) T.b_len (by decide +kernel) (paCons (pdV (pv 11)) paNil)) paNil))) (fun _ _ => rfl)))
              (psCons (psSet (i := 13) sc_law.nd rfl (Or.inl rfl) (pdOp r2Add op_add (pdC pe_int) (pdCall (fun _ _ _ q => (L_coin _ _ _ q).1) G_coin (hr.mono (by decide)) (by rfl) m_coin k_coin b_coin pass0 (paCons (pdV (pv 2)) (paCons (pdOp r2Sub op_sub (pdIx r2IxT ix_tup (pdV (pv 12)) (pdC pe_int) (fun _ _ => rfl)) (pdC pe_int)) paNil)))))
              (psCons (psSet (i := 14) sc_law.nd rfl (Or.inl rfl) (pdLst (paCons (pdOp r2CatT op_catA (pdSl slTD sl_tupA (pdV (pv 12)) poNone (poSome (pdC pe_int))) (pdTup (paCons (pdV (pv 13)) (paCons (pdV (pv 13)) (paCons (pdIx r2IxT ix_tup (pdV (pv 12)) (pdC pe_int) (fun _ _ => rfl)) paNil))))) paNil)))
              (psCons (psApp (by rfl) (pe_bm PySem.F.plainAttrs_list PySem.F.slot_list_append PySem.F.type_list_append mt_append (pv 14) (pa_cons (pdOp r2CatT op_catA (pdOp r2CatT op_catA (pdTup (paCons (pdC pe_int) paNil)) (pdSl slTD sl_tupA (pdV (pv 12)) (poSome (pdC pe_int)) (poSome (pdC pe_int)))) (pdTup (paCons (pdOp r2Sub op_sub (pdIx r2IxT ix_tup (pdV (pv 12)) (pdC pe_int) (fun _ _ => rfl)) (pdV (pv 13))) (paCons (pdOp r2Sub op_sub (pdIx r2IxT ix_tup (pdV (pv 12)) (pdC pe_int) (fun _ _ => rfl)) (pdV (pv 13))) (paCons (pdOp r2Add op_add (pdIx r2IxT ix_tup (pdV (pv 12)) (pdC pe_int) (fun _ _ => rfl)) (pdC pe_int)) paNil))))) pa_nil)))
              (psFrz 14 (psCons (psSet (i := 15) sc_law.nd rfl (Or.inl rfl) (pdOp r2Cat op_cat ((pe_lc (own := [("one", 18)]) rfl sc_law.nd (piList (pdV (pv 5))) (blkOk_by (N := ["script", "k", "purse", "way", "names", "rows", "stamp", "turn", "coming", "near", "width", "some", "row", "first", "pair", "twins", "told", "found", "one"]) (sc := defScope s_law) (by decide +kernel)) (fun _ _ _ _ _ => (pgN (pg_name (i := 18) sc_law.nd rfl (Or.inl rfl)))) (fun _ _ _ _ _ => (pts_one (ptCmp r2NeD (op_neD hr.units) (pdV (pv 18)) (pdV (pv 12)) (nomark _)))) (fun _ _ _ _ _ => (pdV (pv 18)))).imp (lc_le (by decide) (fun _ _ _ q => q))) (pdV (pv 14))))
              (psCons (psSet (i := 16) sc_law.nd rfl (Or.inl rfl) (pdCallN kw_meet G_plain_meet (hr.mono (by decide)) rfl m_plain_meet k_plain_meet b_plain_meet.choose_spec pass0 (paCons (pdV (pv 5)) (paCons (pdV (pv 8)) paNil)) (pkCons (pdOp r2Mul op_mulW (pdC pe_int) (pdV (pv 6))) (pkCons (pdV (pv 10)) (pkCons (pdV (pv 9)) pkNil)))))
              (psFrz 15 (psCons (psSet (i := 17) sc_law.nd rfl (Or.inl rfl) (pdCallN kw_meet G_plain_meet (hr.mono (by decide)) rfl m_plain_meet k_plain_meet b_plain_meet.choose_spec pass0 (paCons (pdV (pv 15)) (paCons (pdV (pv 8)) paNil)) (pkCons (pdOp r2Mul op_mulW (pdC pe_int) (pdV (pv 6))) (pkCons (pdV (pv 10)) (pkCons (pdV (pv 9)) pkNil)))))
              (psCons (psIf (PW.pt (pwOr (ptCmp r2NeD (op_neD hr.units) (pdCall (fun _ _ _ q => (L_joined _ _ _ q).1) G_joined (hr.mono (by decide)) (by rfl) m_joined k_joined b_joined pass0 (paCons (pdIx r2IxT ix_tup (pdV (pv 17)) (pdC pe_int) (fun _ _ => rfl)) (paCons (pdIx r2IxT ix_tup (pdV (pv 12)) (pdC pe_int) (fun _ _ => rfl)) paNil))) (pdIx r2IxT ix_tup (pdV (pv 16)) (pdC pe_int) (fun _ _ => rfl)) (nomark _)) (pwOr1 (ptCmp r2NeD (op_neD hr.units) (pdSl slTD sl_tupA (pdV (pv 17)) (poSome (pdC pe_int)) poNone) (pdSl slTD sl_tupA (pdV (pv 16)) (poSome (pdC pe_int)) poNone) (nomark _))))) (psOne (psRet (pdC pe_bl))) psNil)
              (psOne (psIf (ptNeDic hr.units (pdCall (fun _ _ _ q => (L_left _ _ _ q).1) G_left (hr.mono (by decide)) (by rfl) m_left k_left b_left pass0 (paCons (pdIx r2IxT ix_tup (pdV (pv 17)) (pdC pe_int) (fun _ _ => rfl)) (paCons (pdIx r2IxT ix_tup (pdV (pv 12)) (pdC pe_int) (fun _ _ => rfl)) paNil))) (pdCall (fun _ _ _ q => (L_left _ _ _ q).1) G_left (hr.mono (by decide)) (by rfl) m_left k_left b_left pass0 (paCons (pdIx r2IxT ix_tup (pdV (pv 16)) (pdC pe_int) (fun _ _ => rfl)) (paCons (pdIx r2IxT ix_tup (pdV (pv 12)) (pdC pe_int) (fun _ _ => rfl)) paNil)))) (psOne (psRet (pdC pe_bl))) psNil))))))))))))))))))))))))))))
          (pss_one (ps_ret pe_bl))), ?_⟩
    have hl' : ((ns.map V.int).length : Int) = (ns.length : Int) := by rw [List.length_map]
    refine ⟨_, rfl, _, _, rfl, .inl hS, _, _, rfl, _, _, rfl, _, rfl, ?lo, ?hi, ?_⟩
    case lo => rw [hl']; split <;> split <;> omega
    case hi => rw [hl']; split <;> split <;> omega
    rw [hl']
    refine for_range (lo := 0) (fun i σ H' => (∃ t1 t2 t3 t4 t5 t6 t7 t8 t9 t10 t11 t12 t13 t14 t15 t16 t17 t18, σ = [some (.ref a), t1, t2, t3, t4, t5, t6, t7, t8, t9, t10, t11, t12, t13, t14, t15, t16, t17, t18]) ∧ LamX.ExtN H H' ∧ LamX.Tabs Tabz.T H') ⟨⟨_, _, _, _, _, _, _, _, _, _, _, _, _, _, _, _, _, _, rfl⟩, LamX.ExtN.refl H, hT⟩ ?_ ?_
    case refine_2 =>
      rintro σ H1 ⟨_, x1, tb1⟩
      exact k H1
    rintro i σ H1 hi ⟨⟨t1, t2, t3, t4, t5, t6, t7, t8, t9, t10, t11, t12, t13, t14, t15, t16, t17, t18, rfl⟩, x1, tb1⟩
    have hi8 : (0 : Int) + (i : Int) < 64 := by
      have h3 := hi
      revert h3
      split <;> split <;> intro h3 <;> omega
    refine ⟨_, rfl, _, rfl, a, ns, _, rfl, extN_L x1 hS, hlen, by omega, hi8, fun p H2 np s2 u2 => ?_⟩
    have tb2 : LamX.Tabs Tabz.T H2 := tb1.ext s2
    have u3 := u2
    obtain ⟨_, _, _, hxp, _⟩ := u3
    refine ⟨{ H0 := H2, B := fun b => b = p, t := .ref p, u := .non, pins := [], PB := fun b e => by cases e; rfl, Bs := fun b e => by rw [e]; exact ⟨_, hxp, fun ps z => by cases z⟩ }, fun _ => none, 0, [.raw (.ref a), .un, .tape, .un, .un, .un, .un, .un, .un, .un, .un, .un, .un, .un, .un, .un, .un, .un, .un], { nx := fun ρ _ => ρ[0]? = some (.raw (.ref a)) ∧ ρ.length = 19, rt := fun _ _ => False }, ?env, ?data, ?link⟩
    case env =>
      refine ⟨fun b o _ _ e => e, ⟨fun b e => by cases e; exact u2, tb2⟩, fun i a e => (by cases e), fun i a e => (by cases e), fun i j a e => (by cases e), fun i x e => ?_, rfl, fun q hq => (by cases hq), ⟨0, fun _ _ => rfl⟩, fun i a x e => (by cases e)⟩
      match i, e with
      | 0, e => cases e; exact rfl
      | 1, e => cases e; exact True.intro
      | 2, e => cases e; exact ⟨rfl, p, rfl⟩
      | i + 3, e =>
        have e' : (List.replicate 16 DV.un)[i]? = some x := e
        rw [List.getElem?_replicate] at e'
        split at e'
        · cases e'; exact True.intro
        · cases e'
    case link =>
      refine ⟨fun A n σ H' ρ h e => ?_, fun v r n H' h => h.elim, fun A n σ H' ρ h => h.elim, fun A n σ H' ρ h => h.elim⟩
      have hs := e.slot 0 _ h.1
      have hl : σ.length = 19 := by rw [← e.len]; exact h.2
      have hs' : σ[0]? = some (some (.ref a)) := hs
      refine ⟨?_, fun b o hb hn => ?_, e.g.2⟩
      · match σ, hl, hs' with
        | [x0, x1, x2, x3, x4, x5, x6, x7, x8, x9, x10, x11, x12, x13, x14, x15, x16, x17, x18], _, hs' =>
          cases hs'
          exact ⟨_, _, _, _, _, _, _, _, _, _, _, _, _, _, _, _, _, _, rfl⟩
      · have b2 : H2 b = some o := s2 b o (x1 b o hb hn)
        refine e.keep b o (fun z => ?_) hn b2
        have z' : V.ref p = V.ref b := z
        cases z'
        rw [x1 p o hb hn] at np
        cases np
    case data =>
      have tk3 : ∀ ns : List Str, cutD (ns.map PyData.str) none (some 3) = (ns.take 3).map PyData.str := fun ns => cut_take3 ns 3 (by decide)
      repeat walk_at "d"
      refine ⟨cnd ⟨by decide, by omega⟩, fun way w0 w1 => ?_⟩
      repeat walk_at "d"
      refine ⟨cnd ⟨by decide, by omega⟩, fun r1 r1a r1b => ?_⟩
      repeat walk_at "d"
      refine ⟨cnd ⟨⟨by omega, by omega⟩, by omega⟩, fun nms hnl hnk => ?_⟩
      repeat walk_at "d"
      refine ⟨cnd ⟨by decide, by omega⟩, fun r2 r2a r2b => ?_⟩
      repeat walk_at "d"
      have hlm : ((nms.map PyData.str).length : Int) = nms.length := by rw [List.length_map]
      have ht3 : (nms.take 3).length ≤ nms.length ∧ (0 < nms.length → 0 < (nms.take 3).length) := by
        rw [List.length_take]
        omega
      refine ⟨nms.take 3, 1 + r2, way, ?_, cnd ⟨⟨by omega, by omega⟩, ⟨w0, w1⟩, ⟨by omega, by omega⟩, fun x hx => hnk x (List.mem_of_mem_take hx), by omega, by omega⟩, fun rows0 num st n1 hc1 => ?_⟩
      · show [DV.tape, .d (.list (cutD (nms.map PyData.str) none (some 3))), _, _] = _
        rw [tk3]
        rfl
      obtain ⟨hrl0, hrt0, ⟨hnm0, hnm1, hst0, hst1⟩, hn1, hn2⟩ := hc1.get
      have hrl1 : rows0.length ≤ 14 := by omega
      repeat walk_at "d"
      refine lcMap ((rows0.map spaceR).map Row.dat) rfl (by rw [List.length_map]; omega) (by rw [List.length_map, List.length_map, List.length_map]) ?_ ?_
      · intro i d y hd hy
        obtain ⟨r, hr, rfl⟩ := dat_at hd
        rw [List.getElem?_map, List.getElem?_map, hr] at hy
        cases hy
        have hm := List.mem_of_getElem? hr
        have := hrt0.ranks.2 r hm
        have := hrt0.st0 r hm
        refine ⟨_, rfl, fun R kk => ?_⟩
        repeat walk_at "d"
        exact ⟨⟨by omega, by omega⟩, kk _ rfl⟩
      have rok : ∀ r ∈ rows0.map spaceR, RowOk r := fun r hr => by
        obtain ⟨x, hx, rfl⟩ := List.mem_map.mp hr
        exact (hrt0.row x hx).ok
      have hphi : Phi (rows0.map spaceR) ≤ 294 := by
        have := Phi21 (rs := rows0.map spaceR) fun r hr => by
          obtain ⟨x, hx, rfl⟩ := List.mem_map.mp hr
          exact (hrt0.row x hx).phi
        rw [List.length_map] at this
        omega
      have hnum : (∀ a ∈ rows0.map spaceR, ∀ b ∈ rows0.map spaceR, a.num = b.num → a = b) ∧ ∀ r ∈ rows0.map spaceR, 0 ≤ r.num ∧ r.num < 100 := by
        refine ⟨fun a ha b hb e => ?_, fun r hr => ?_⟩
        · obtain ⟨x, hx, rfl⟩ := List.mem_map.mp ha
          obtain ⟨y, hy, rfl⟩ := List.mem_map.mp hb
          rw [hrt0.nums.1 x hx y hy e]
        · obtain ⟨x, hx, rfl⟩ := List.mem_map.mp hr
          have := hrt0.nums.2 x hx
          show 0 ≤ x.num ∧ x.num < 100
          omega
      have hrank : UR (rows0.map spaceR) (2 * st) := by
        refine ⟨fun a ha b hb e => ?_, fun r hr => ?_⟩
        · obtain ⟨x, hx, rfl⟩ := List.mem_map.mp ha
          obtain ⟨y, hy, rfl⟩ := List.mem_map.mp hb
          have e' : 2 * x.rank = 2 * y.rank := e
          rw [hrt0.ranks.1 x hx y hy (by omega)]
        · obtain ⟨x, hx, rfl⟩ := List.mem_map.mp hr
          have := hrt0.ranks.2 x hx
          show 2 * x.rank < 2 * st
          omega
      have heven : ∀ r ∈ rows0.map spaceR, r.rank % 2 = 0 ∧ 0 ≤ r.rank := fun r hr => by
        obtain ⟨x, hx, rfl⟩ := List.mem_map.mp hr
        have := hrt0.st0 x hx
        show (2 * x.rank) % 2 = 0 ∧ 0 ≤ 2 * x.rank
        omega
      have hrl2 : (rows0.map spaceR).length ≤ 14 := by rw [List.length_map]; exact hrl1
      have hnd : (rows0.map spaceR).Nodup := by
        refine List.pairwise_map.mpr (List.Pairwise.imp_of_mem (fun {x y} hx hy ne e => ne ?_) hrt0.nd)
        have e1 := congrArg Row.num e
        exact hrt0.nums.1 x hx y hy e1
      generalize rows0.map spaceR = rows at rok hphi hnum hrank heven hrl2 hnd ⊢
      repeat walk_at "d"
      refine ⟨by decide, by decide, ?_⟩
      refine ⟨fun i ρ m => (0 ≤ m ∧ m ≤ n1 + 100 * i) ∧ ∃ j7 j8 j9 j10 j11 j12 j13 j14 j15 j16 j17 : DV, ρ = [.raw (.ref a), .un, .tape, .d (.int way), .d (.list (nms.map PyData.str)), .d (dRows rows), .d (.int st), j7, j8, j9, j10, j11, j12, j13, j14, j15, j16, j17, .un] ∧ j12.isOwn = false, ⟨⟨by omega, by omega⟩, .un, .un, .un, .un, .un, .un, .un, .un, .un, .un, .un, rfl, rfl⟩, ?_, ?_⟩
      · rintro i d ρ m hd ⟨⟨hm0, hm1⟩, j7, j8, j9, j10, j11, j12, j13, j14, j15, j16, j17, rfl, hj⟩
        have hi : i < 3 := by
          have := (List.getElem?_eq_some_iff.mp hd).1
          rwa [List.length_map, List.length_range] at this
        have hd' : ((List.range 3).map fun i => PyData.int (i : Nat))[i]? = some d := hd
        rw [List.getElem?_map, List.getElem?_range hi] at hd'
        cases hd'
        repeat walk_at "d"
        refine ⟨cnd ⟨⟨w0, w1⟩, ⟨by omega, by omega⟩, hnk, by omega, by omega⟩, fun c n2 hc2 => ?_⟩
        obtain ⟨hg, ⟨hcl0, hcl1⟩, hcs, hcw, hcn, hcp, hn3, hn4⟩ := hc2.get
        repeat walk_at "d"
        refine ⟨cnd ⟨⟨w0, w1⟩, by omega⟩, fun near cnear => ?_⟩
        repeat walk_at "d"
        refine ⟨cnd ⟨by decide, by omega⟩, fun d1 d1a d1b => ?_⟩
        repeat walk_at "d"
        refine ⟨cnd ⟨by decide, by omega⟩, fun d2 d2a d2b => ?_⟩
        obtain ⟨band, eband⟩ : ∃ band : Option Int, opIxL (.list [.none, .int d1]) (.int d2) = some (.d (datP band)) := by
          rcases ix2 (a := .none) (b := .int d1) d2a d2b with e | e
          · exact ⟨none, e⟩
          · exact ⟨some d1, e⟩
        repeat walk_at "d"
        refine ⟨_, eband, ?_⟩
        repeat walk_at "d"
        refine lcFM (pD c.who) (fun d => d) (by show ((!j12.isOwn) && true) = true; rw [hj]; rfl) (by rw [List.length_map]; omega) ?_ ?_
        · intro d hd
          obtain ⟨r, hr, rfl⟩ := List.mem_map.mp hd
          refine ⟨_, rfl, fun R kk => ?_, fun _ R kk => ?_⟩
          · have ep : pD c.who r.dat = (isN (datP r.part) && (!decide (r.who = c.who) && decide (1 < r.left))) := rfl
            rw [ep] at kk
            repeat walk_at "d"
            cases hpt : r.part with
            | some p =>
              rw [hpt] at kk
              exact kk
            | none =>
              rw [hpt] at kk
              repeat walk_at "d"
              by_cases hw : r.who = c.who
              · rw [decide_eq_true hw] at kk ⊢
                exact kk
              · rw [decide_eq_false hw] at kk ⊢
                repeat walk_at "d"
                exact kk
          · repeat walk_at "d"
            exact kk _ rfl
        have efl : ((rows.map Row.dat).filter (pD c.who)).map (fun d => d) = (rows.filter fun r => pD c.who r.dat).map Row.dat := by
          rw [List.map_id', List.filter_map]
          rfl
        rw [efl]
        have hsome : ∀ r ∈ rows.filter (fun r => pD c.who r.dat), r ∈ rows ∧ r.part = none ∧ r.who ≠ c.who ∧ 1 < r.left := fun r hr => by
          obtain ⟨h1, h2⟩ := List.mem_filter.mp hr
          have ep : pD c.who r.dat = (isN (datP r.part) && (!decide (r.who = c.who) && decide (1 < r.left))) := rfl
          rw [ep, Bool.and_eq_true, Bool.and_eq_true] at h2
          refine ⟨h1, ?_, ?_, of_decide_eq_true h2.2.2⟩
          · cases hpt : r.part with
            | none => rfl
            | some p => rw [hpt] at h2; cases h2.1
          · have := h2.2.1
            simpa using this
        have hsl : (rows.filter fun r => pD c.who r.dat).length ≤ 14 := Nat.le_trans (List.length_filter_le _ _) hrl2
        generalize rows.filter (fun r => pD c.who r.dat) = some9 at hsome hsl ⊢
        repeat walk_at "d"
        refine ⟨_, eq_nilR some9 fun r hr => rok r (hsome r hr).1, ?_⟩
        repeat walk_at "d"
        refine ite2 (fun q => ?_) (fun q => ?_)
        · exact ⟨⟨by omega, by omega⟩, _, _, _, _, _, _, _, _, _, _, _, rfl, hj⟩
        have hne : some9 ≠ [] := fun z => q (by rw [z]; rfl)
        have hpos : 0 < some9.length := List.length_pos_iff.mpr hne
        repeat walk_at "d"
        refine ⟨cnd ⟨⟨by rw [List.length_map]; omega, by rw [List.length_map]; omega⟩, by omega⟩, fun d3 d3a d3b => ?_⟩
        rw [List.length_map] at d3b
        obtain ⟨d, hdm, ed⟩ := ixMem (xs := some9.map Row.dat) d3a (by rw [List.length_map]; exact d3b)
        obtain ⟨r, hrm, rfl⟩ := List.mem_map.mp hdm
        obtain ⟨hr, hpt, hwho, hleft⟩ := hsome r hrm
        have hrok := rok r hr
        have hl64 := hrok.2.2.1
        repeat walk_at "d"
        refine ⟨_, ed, ?_⟩
        repeat walk_at "d"
        refine ⟨cnd ⟨⟨by omega, by omega⟩, by omega⟩, fun d4 d4a d4b => ?_⟩
        repeat walk_at "d"
        have f0 : 0 < 1 + d4 := by omega
        have f1 : 1 + d4 < r.left := by omega
        refine lcFM (fun d => !PyData.eqv d r.dat) (fun d => d) rfl (by rw [List.length_map]; omega) ?_ ?_
        · intro d hd
          obtain ⟨x, hx, rfl⟩ := List.mem_map.mp hd
          refine ⟨_, rfl, fun R kk => ?_, fun _ R kk => ?_⟩
          · repeat walk_at "d"
            exact ⟨_, ne_rows (rok x hx) hrok, _, rfl, kk⟩
          · repeat walk_at "d"
            exact kk _ rfl
        repeat walk_at "d"
        have efx : ((rows.map Row.dat).filter (fun d => !PyData.eqv d r.dat)).map (fun d => d) = (rows.filter fun x => !PyData.eqv x.dat r.dat).map Row.dat := by
          rw [List.map_id', List.filter_map]
          rfl
        rw [efx]
        have hX : ∀ x ∈ rows.filter (fun x => !PyData.eqv x.dat r.dat), x ∈ rows ∧ x ≠ r := fun x hx => by
          obtain ⟨h1, h2⟩ := List.mem_filter.mp hx
          refine ⟨h1, fun e => ?_⟩
          rw [e, (eqv_row r r).mpr rfl] at h2
          cases h2
        have hXp : rows.Perm (rows.filter (fun x => !PyData.eqv x.dat r.dat) ++ [r]) := parted_perm hr hnd
        have hXl : (rows.filter fun x => !PyData.eqv x.dat r.dat).length ≤ 14 := Nat.le_trans (List.length_filter_le _ _) hrl2
        have hXphi : Phi (rows.filter fun x => !PyData.eqv x.dat r.dat) ≤ 294 := Nat.le_trans (Phi_filter _ _) hphi
        generalize rows.filter (fun x => !PyData.eqv x.dat r.dat) = X at hX hXp hXl hXphi ⊢
        refine ⟨_, opCat_ok (by rw [List.length_map]; show _ + 2 ≤ 200000; omega), ?_⟩
        repeat walk_at "d"
        refine ⟨_, if_pos (decide_eq_true (mul_big (by decide) (by omega))), ?_⟩
        repeat walk_at "d"
        have mok0 : AOk 300 ⟨rows, [], c.left, 2 * st⟩ := ⟨rok, by show rows.length ≤ 300; omega, by show 0 ≤ c.left; omega, by show c.left < 2 ^ 64; omega, by show Phi rows ≤ 300; omega, by show 0 + 3 * Phi rows ≤ 4 * 300 + 3; omega, fun _ => by show 0 + 3 * Phi rows ≤ 3 * 300; omega⟩
        refine ⟨⟨rfl, rfl⟩, (plainOf_R (ds := [_, _, _, _, _, _]) rfl).1, rows, c, 2 * st, band, .int near, near, "rank", 300, rfl, fun _ => rfl, hg, by decide, mok0, fun kT finT eT => ?_⟩
        repeat walk_at "d"
        refine ⟨_, if_pos (decide_eq_true (mul_big (by decide) (by omega))), ?_⟩
        repeat walk_at "d"
        have ok1 : RowOk (r1M r (1 + d4)) := ⟨by show 1 ≤ 1 + d4; omega, Int.le_refl _, by show 1 + d4 < 2 ^ 64; omega, hrok.2.2.2.1, fun _ => rfl, hrok.2.2.2.2.2.1, hrok.2.2.2.2.2.2⟩
        have ok2 : RowOk (r2M r (1 + d4)) := ⟨by show 1 ≤ r.left - (1 + d4); omega, Int.le_refl _, by show r.left - (1 + d4) < 2 ^ 64; omega, hrok.2.2.2.1, fun _ => rfl, hrok.2.2.2.2.2.1, hrok.2.2.2.2.2.2⟩
        have p1 : phi (r1M r (1 + d4)) = 1 := by unfold phi; rw [show (r1M r (1 + d4)).part = none from hpt]; rfl
        have p2 : phi (r2M r (1 + d4)) = 1 := by unfold phi; rw [show (r2M r (1 + d4)).part = none from hpt]; rfl
        have inT : ∀ x ∈ X ++ [r1M r (1 + d4), r2M r (1 + d4)], (x ∈ rows ∧ x ≠ r) ∨ x = r1M r (1 + d4) ∨ x = r2M r (1 + d4) := fun x hx => by
          rcases List.mem_append.mp hx with z | z
          · exact .inl (hX x z)
          · exact .inr (by simpa using z)
        have tok : ∀ x ∈ X ++ [r1M r (1 + d4), r2M r (1 + d4)], RowOk x := fun x hx => by
          rcases inT x hx with z | z | z
          · exact rok x z.1
          · rw [z]; exact ok1
          · rw [z]; exact ok2
        have tphi : Phi (X ++ [r1M r (1 + d4), r2M r (1 + d4)]) ≤ 296 := by
          rw [Phi_app]
          show Phi X + (phi (r1M r (1 + d4)) + (phi (r2M r (1 + d4)) + 0)) ≤ 296
          omega
        have tlen : (X ++ [r1M r (1 + d4), r2M r (1 + d4)]).length ≤ 16 := by rw [List.length_append]; show X.length + 2 ≤ 16; omega
        have mok1 : AOk 301 ⟨X ++ [r1M r (1 + d4), r2M r (1 + d4)], [], c.left, 2 * st⟩ := ⟨tok, by show (X ++ [r1M r (1 + d4), r2M r (1 + d4)]).length ≤ 301; omega, by show 0 ≤ c.left; omega, by show c.left < 2 ^ 64; omega, by show Phi (X ++ [r1M r (1 + d4), r2M r (1 + d4)]) ≤ 301; omega, by show 0 + 3 * Phi (X ++ [r1M r (1 + d4), r2M r (1 + d4)]) ≤ 4 * 301 + 3; omega, fun _ => by show 0 + 3 * Phi (X ++ [r1M r (1 + d4), r2M r (1 + d4)]) ≤ 3 * 301; omega⟩
        refine ⟨⟨rfl, rfl⟩, (plainOf_R (ds := [_, _, _, _, _, _]) rfl).1, X ++ [r1M r (1 + d4), r2M r (1 + d4)], c, 2 * st, band, .int near, near, "rank", 301, ?_, fun _ => rfl, hg, by decide, mok1, fun kF finF eF => ?_⟩
        · rw [dRows, List.map_append]
          rfl
        have TW : Tw 300 c r (1 + d4) X ⟨rows, [], c.left, 2 * st⟩ ⟨X ++ [r1M r (1 + d4), r2M r (1 + d4)], [], c.left, 2 * st⟩ := by
          have hr0 := heven r hr
          have hr1 := hrank.2 r hr
          have hr2 := hnum.2 r hr
          refine ⟨hXp, List.Perm.refl _, rfl, rfl, rfl, ⟨mok0.rows, mok0.len, mok0.l0, mok0.l1, mok0.phi, by show 0 + 3 * Phi rows ≤ 3 * 300 + 3; omega, mok0.ev2⟩, ⟨mok1.rows, mok1.len, mok1.l0, mok1.l1, mok1.phi, by show 0 + 3 * Phi (X ++ [r1M r (1 + d4), r2M r (1 + d4)]) ≤ 3 * 301 + 3; omega, mok1.ev2⟩, hrank, tw_ur hX hr hrank (fun x hx => (heven x hx).1) (by show (2 * st) % 2 = 0; omega), fun x hx => ?_, ⟨fun e => ?_, fun e => ?_⟩, hwho, hpt, hr0.1, ?_, f0, f1⟩
          · obtain ⟨h1, h2⟩ := hX x hx
            have := hnum.2 x h1
            exact ⟨fun e => h2 (hnum.1 x h1 r hr e), fun e => by omega⟩
          · omega
          · omega
          · have hr1' : r.rank < 2 * st := hr1
            omega
        obtain ⟨k', fin', e5, O⟩ := tw_sim hg TW eT
        have ef := meet_same eF e5
        subst ef
        have okT := (meet_inv14 hg TW.ok eT)
        have okF := (meet_inv14 hg TW.ok' eF)
        have hr700 : r.num ≠ 700 := by have := hnum.2 r hr; omega
        have hcn7 : NotR r c.num := TW.hc
        have hj2 := joined_whole hcn7 hr700 O
        have evT := okT.ev
        have evF := okF.ev
        have lnT := okT.len
        have lnF := okF.len
        obtain ⟨X', Rs, Rs', oA, oB, oX, oR⟩ := O.rows
        have sideOf : ∀ {st9 : MSt} {B9 : Nat}, MOk B9 st9 → (rankM st9.rows).Perm st9.rows := fun ok9 => rank_of_perm fun x hx => (ok9.rows x hx).2.2.2.2.2.2
        obtain ⟨ll, lv⟩ := left_same ((sideOf okT).trans oA) ((sideOf okF).trans oB) oX hr700 oR
        have rkT := rank_le finT.1.rows
        have rkF := rank_le finF.1.rows
        repeat walk_at "d"
        refine ⟨cnd (by omega), ?_⟩
        rw [hj2]
        repeat walk_at "d"
        refine ⟨_, ne_same (evts_shaped _), ?_⟩
        have htl : opNeD (.tuple [.int finF.1.left, .bool finF.2, .int finF.1.rank]) (.tuple [.int finT.1.left, .bool finT.2, .int finT.1.rank]) = some (.d (.bool false)) := by
          rw [O.l, O.h, O.k]
          exact ne_same (tail_shaped _ _ _)
        repeat first | refine ⟨_, htl, ?_⟩ | walk_at "d"
        refine ⟨cnd (by omega), ?_⟩
        repeat walk_at "d"
        refine ⟨cnd (by omega), ?_⟩
        refine ⟨_, _, rfl, rfl, ll, lv, ?_⟩
        repeat walk_at "d"
        exact ⟨⟨by omega, by omega⟩, _, _, _, _, _, _, _, _, _, _, _, rfl, rfl⟩
      · rintro ρ m ⟨⟨hm0, hm1⟩, j7, j8, j9, j10, j11, j12, j13, j14, j15, j16, j17, rfl, hj⟩
        exact ⟨rfl, rfl⟩
end

end
/-! ### what the top has written, the end -/
abbrev tz (P1 P2 : Addr) : Tabz := ⟨[(P1, ("ranked.<locals>." : Str) ++ "<lambda>"), (P2, ("rows_met.<locals>." : Str) ++ "<lambda>")]⟩
theorem all_mk {l : PySem.W.OpenLaw} {w : World} {K : PySem.W.Frag} {h : Heap} {mg : Str → Option Value} {fa cR PR cM PM DL f1 f2 f3 f4 f5 f6 f7 f8 f9 f10 f11 f12 f13 f14 f15 f16 f17 f18 f19 f20 f21 f22 f23 f24 : Addr} (X : K.In h) (G : h.Ns mainGlobals mg) (hfa : mg "law" = some (.ref fa))
    {od1 an1 od2 an2 od3 an3 od4 an4 od5 an5 od6 an6 od7 an7 od8 an8 od9 an9 od10 an10 od11 an11 od12 an12 od13 an13 od14 an14 od15 an15 od16 an16 od17 an17 od18 an18 od19 an19 od20 an20 od21 an21 od22 an22 od23 an23 od24 an24 : Option Addr} {sl1 sl2 sl3 sl4 sl5 sl6 sl7 sl8 sl9 sl10 sl11 sl12 sl13 sl14 sl15 sl16 sl17 sl18 sl19 sl20 sl21 sl22 sl23 sl24 : Array (Option Value)} {oc1 kV1 dc1 pm1 cd1 ct1 oc2 kV2 dc2 pm2 cd2 ct2 oc3 kV3 dc3 pm3 cd3 ct3 oc4 kV4 dc4 pm4 cd4 ct4 oc5 kV5 dc5 pm5 cd5 ct5 oc6 kV6 dc6 pm6 cd6 ct6 oc7 kV7 dc7 pm7 cd7 ct7 oc8 kV8 dc8 pm8 cd8 ct8 oc9 kV9 dc9 pm9 cd9 ct9 oc10 kV10 dc10 pm10 cd10 ct10 oc11 kV11 dc11 pm11 cd11 ct11 oc12 kV12 dc12 pm12 ct12 oc13 kV13 dc13 pm13 ct13 oc14 dc14 pm14 cd14 ct14 oc15 kV15 dc15 pm15 cd15 ct15 oc16 kV16 dc16 pm16 cd16 ct16 oc17 kV17 dc17 pm17 cd17 ct17 oc18 kV18 dc18 pm18 cd18 ct18 oc19 kV19 dc19 pm19 cd19 ct19 oc20 kV20 dc20 pm20 cd20 ct20 oc21 kV21 dc21 pm21 cd21 ct21 oc22 kV22 dc22 pm22 cd22 ct22 oc23 kV23 dc23 pm23 cd23 ct23 oc24 kV24 dc24 pm24 cd24 ct24 : Value}
    (a1 : PySem.W.nsIn K mainGlobals "lets" = some (some (.ref f1))) (l1 : K.lookup f1 = some ⟨oc1, od1, .func (PySem.W.fnOf "lets" "lets" (defArgs s_lets) (defBody s_lets) (defScope s_lets) .none kV1 dc1 pm1 an1 cd1 ct1), sl1⟩) (c1 : PySem.W.codeIn K cd1 "lets" = true) (k1 : PySem.W.keepIn K (.ref f1) = true)
    (a2 : PySem.W.nsIn K mainGlobals "against" = some (some (.ref f2))) (l2 : K.lookup f2 = some ⟨oc2, od2, .func (PySem.W.fnOf "against" "against" (defArgs s_against) (defBody s_against) (defScope s_against) .none kV2 dc2 pm2 an2 cd2 ct2), sl2⟩) (c2 : PySem.W.codeIn K cd2 "against" = true) (k2 : PySem.W.keepIn K (.ref f2) = true)
    (a3 : PySem.W.nsIn K mainGlobals "too_far" = some (some (.ref f3))) (l3 : K.lookup f3 = some ⟨oc3, od3, .func (PySem.W.fnOf "too_far" "too_far" (defArgs s_too_far) (defBody s_too_far) (defScope s_too_far) .none kV3 dc3 pm3 an3 cd3 ct3), sl3⟩) (c3 : PySem.W.codeIn K cd3 "too_far" = true) (k3 : PySem.W.keepIn K (.ref f3) = true)
    (a4 : PySem.W.nsIn K mainGlobals "part_seen" = some (some (.ref f4))) (l4 : K.lookup f4 = some ⟨oc4, od4, .func (PySem.W.fnOf "part_seen" "part_seen" (defArgs s_part_seen) (defBody s_part_seen) (defScope s_part_seen) .none kV4 dc4 pm4 an4 cd4 ct4), sl4⟩) (c4 : PySem.W.codeIn K cd4 "part_seen" = true) (k4 : PySem.W.keepIn K (.ref f4) = true)
    (a5 : PySem.W.nsIn K mainGlobals "hidden_first" = some (some (.ref f5))) (l5 : K.lookup f5 = some ⟨oc5, od5, .func (PySem.W.fnOf "hidden_first" "hidden_first" (defArgs s_hidden_first) (defBody s_hidden_first) (defScope s_hidden_first) .none kV5 dc5 pm5 an5 cd5 ct5), sl5⟩) (c5 : PySem.W.codeIn K cd5 "hidden_first" = true) (k5 : PySem.W.keepIn K (.ref f5) = true)
    (a6 : PySem.W.nsIn K mainGlobals "seen_first" = some (some (.ref f6))) (l6 : K.lookup f6 = some ⟨oc6, od6, .func (PySem.W.fnOf "seen_first" "seen_first" (defArgs s_seen_first) (defBody s_seen_first) (defScope s_seen_first) .none kV6 dc6 pm6 an6 cd6 ct6), sl6⟩) (c6 : PySem.W.codeIn K cd6 "seen_first" = true) (k6 : PySem.W.keepIn K (.ref f6) = true)
    (a7 : PySem.W.nsIn K mainGlobals "shown_anew" = some (some (.ref f7))) (l7 : K.lookup f7 = some ⟨oc7, od7, .func (PySem.W.fnOf "shown_anew" "shown_anew" (defArgs s_shown_anew) (defBody s_shown_anew) (defScope s_shown_anew) .none kV7 dc7 pm7 an7 cd7 ct7), sl7⟩) (c7 : PySem.W.codeIn K cd7 "shown_anew" = true) (k7 : PySem.W.keepIn K (.ref f7) = true)
    (a8 : PySem.W.nsIn K mainGlobals "shares" = some (some (.ref f8))) (l8 : K.lookup f8 = some ⟨oc8, od8, .func (PySem.W.fnOf "shares" "shares" (defArgs s_shares) (defBody s_shares) (defScope s_shares) .none kV8 dc8 pm8 an8 cd8 ct8), sl8⟩) (c8 : PySem.W.codeIn K cd8 "shares" = true) (k8 : PySem.W.keepIn K (.ref f8) = true)
    (a9 : PySem.W.nsIn K mainGlobals "step_with_own" = some (some (.ref f9))) (l9 : K.lookup f9 = some ⟨oc9, od9, .func (PySem.W.fnOf "step_with_own" "step_with_own" (defArgs s_step_with_own) (defBody s_step_with_own) (defScope s_step_with_own) .none kV9 dc9 pm9 an9 cd9 ct9), sl9⟩) (c9 : PySem.W.codeIn K cd9 "step_with_own" = true) (k9 : PySem.W.keepIn K (.ref f9) = true)
    (a10 : PySem.W.nsIn K mainGlobals "step_of_trades" = some (some (.ref f10))) (l10 : K.lookup f10 = some ⟨oc10, od10, .func (PySem.W.fnOf "step_of_trades" "step_of_trades" (defArgs s_step_of_trades) (defBody s_step_of_trades) (defScope s_step_of_trades) .none kV10 dc10 pm10 an10 cd10 ct10), sl10⟩) (c10 : PySem.W.codeIn K cd10 "step_of_trades" = true) (k10 : PySem.W.keepIn K (.ref f10) = true)
    (a11 : PySem.W.nsIn K mainGlobals "step" = some (some (.ref f11))) (l11 : K.lookup f11 = some ⟨oc11, od11, .func (PySem.W.fnOf "step" "step" (defArgs s_step) (defBody s_step) (defScope s_step) .none kV11 dc11 pm11 an11 cd11 ct11), sl11⟩) (c11 : PySem.W.codeIn K cd11 "step" = true) (k11 : PySem.W.keepIn K (.ref f11) = true)
    (a12 : PySem.W.nsIn K mainGlobals "rows_met" = some (some (.ref f12))) (l12 : K.lookup f12 = some ⟨oc12, od12, .func (PySem.W.fnOf "rows_met" "rows_met" (defArgs s_rows_met) (defBody s_rows_met) (defScope s_rows_met) .none kV12 dc12 pm12 an12 (.ref cM) ct12), sl12⟩) (c12 : PySem.W.codeIn K (.ref cM) "rows_met" = true) (k12 : PySem.W.keepIn K (.ref f12) = true)
    (a13 : PySem.W.nsIn K mainGlobals "ranked" = some (some (.ref f13))) (l13 : K.lookup f13 = some ⟨oc13, od13, .func (PySem.W.fnOf "ranked" "ranked" (defArgs s_ranked) (defBody s_ranked) (defScope s_ranked) .none kV13 dc13 pm13 an13 (.ref cR) ct13), sl13⟩) (c13 : PySem.W.codeIn K (.ref cR) "ranked" = true) (k13 : PySem.W.keepIn K (.ref f13) = true)
    (a14 : PySem.W.nsIn K mainGlobals "plain_meet" = some (some (.ref f14))) (l14 : K.lookup f14 = some ⟨oc14, od14, .func (PySem.W.fnOf "plain_meet" "plain_meet" (defArgs s_plain_meet) (defBody s_plain_meet) (defScope s_plain_meet) .none (.ref DL) dc14 pm14 an14 cd14 ct14), sl14⟩) (c14 : PySem.W.codeIn K cd14 "plain_meet" = true) (k14 : PySem.W.keepIn K (.ref f14) = true)
    (a15 : PySem.W.nsIn K mainGlobals "_law_purse" = some (some (.ref f15))) (l15 : K.lookup f15 = some ⟨oc15, od15, .func (PySem.W.fnOf "_law_purse" "_law_purse" (defArgs s_law_purse) (defBody s_law_purse) (defScope s_law_purse) .none kV15 dc15 pm15 an15 cd15 ct15), sl15⟩) (c15 : PySem.W.codeIn K cd15 "_law_purse" = true) (k15 : PySem.W.keepIn K (.ref f15) = true)
    (a16 : PySem.W.nsIn K mainGlobals "_law_coin" = some (some (.ref f16))) (l16 : K.lookup f16 = some ⟨oc16, od16, .func (PySem.W.fnOf "_law_coin" "_law_coin" (defArgs s_law_coin) (defBody s_law_coin) (defScope s_law_coin) .none kV16 dc16 pm16 an16 cd16 ct16), sl16⟩) (c16 : PySem.W.codeIn K cd16 "_law_coin" = true) (k16 : PySem.W.keepIn K (.ref f16) = true)
    (a17 : PySem.W.nsIn K mainGlobals "_law_names" = some (some (.ref f17))) (l17 : K.lookup f17 = some ⟨oc17, od17, .func (PySem.W.fnOf "_law_names" "_law_names" (defArgs s_law_names) (defBody s_law_names) (defScope s_law_names) .none kV17 dc17 pm17 an17 cd17 ct17), sl17⟩) (c17 : PySem.W.codeIn K cd17 "_law_names" = true) (k17 : PySem.W.keepIn K (.ref f17) = true)
    (a18 : PySem.W.nsIn K mainGlobals "_law_level" = some (some (.ref f18))) (l18 : K.lookup f18 = some ⟨oc18, od18, .func (PySem.W.fnOf "_law_level" "_law_level" (defArgs s_law_level) (defBody s_law_level) (defScope s_law_level) .none kV18 dc18 pm18 an18 cd18 ct18), sl18⟩) (c18 : PySem.W.codeIn K cd18 "_law_level" = true) (k18 : PySem.W.keepIn K (.ref f18) = true)
    (a19 : PySem.W.nsIn K mainGlobals "_law_rows" = some (some (.ref f19))) (l19 : K.lookup f19 = some ⟨oc19, od19, .func (PySem.W.fnOf "_law_rows" "_law_rows" (defArgs s_law_rows) (defBody s_law_rows) (defScope s_law_rows) .none kV19 dc19 pm19 an19 cd19 ct19), sl19⟩) (c19 : PySem.W.codeIn K cd19 "_law_rows" = true) (k19 : PySem.W.keepIn K (.ref f19) = true)
    (a20 : PySem.W.nsIn K mainGlobals "_law_coming" = some (some (.ref f20))) (l20 : K.lookup f20 = some ⟨oc20, od20, .func (PySem.W.fnOf "_law_coming" "_law_coming" (defArgs s_law_coming) (defBody s_law_coming) (defScope s_law_coming) .none kV20 dc20 pm20 an20 cd20 ct20), sl20⟩) (c20 : PySem.W.codeIn K cd20 "_law_coming" = true) (k20 : PySem.W.keepIn K (.ref f20) = true)
    (a21 : PySem.W.nsIn K mainGlobals "_law_spaced" = some (some (.ref f21))) (l21 : K.lookup f21 = some ⟨oc21, od21, .func (PySem.W.fnOf "_law_spaced" "_law_spaced" (defArgs s_law_spaced) (defBody s_law_spaced) (defScope s_law_spaced) .none kV21 dc21 pm21 an21 cd21 ct21), sl21⟩) (c21 : PySem.W.codeIn K cd21 "_law_spaced" = true) (k21 : PySem.W.keepIn K (.ref f21) = true)
    (a22 : PySem.W.nsIn K mainGlobals "_law_left" = some (some (.ref f22))) (l22 : K.lookup f22 = some ⟨oc22, od22, .func (PySem.W.fnOf "_law_left" "_law_left" (defArgs s_law_left) (defBody s_law_left) (defScope s_law_left) .none kV22 dc22 pm22 an22 cd22 ct22), sl22⟩) (c22 : PySem.W.codeIn K cd22 "_law_left" = true) (k22 : PySem.W.keepIn K (.ref f22) = true)
    (a23 : PySem.W.nsIn K mainGlobals "_law_joined" = some (some (.ref f23))) (l23 : K.lookup f23 = some ⟨oc23, od23, .func (PySem.W.fnOf "_law_joined" "_law_joined" (defArgs s_law_joined) (defBody s_law_joined) (defScope s_law_joined) .none kV23 dc23 pm23 an23 cd23 ct23), sl23⟩) (c23 : PySem.W.codeIn K cd23 "_law_joined" = true) (k23 : PySem.W.keepIn K (.ref f23) = true)
    (a24 : PySem.W.nsIn K mainGlobals "law" = some (some (.ref f24))) (l24 : K.lookup f24 = some ⟨oc24, od24, .func (PySem.W.fnOf "law" "law" (defArgs s_law) (defBody s_law) (defScope s_law) .none kV24 dc24 pm24 an24 cd24 ct24), sl24⟩) (c24 : PySem.W.codeIn K cd24 "law" = true) (k24 : PySem.W.keepIn K (.ref f24) = true)
    (z0 : PySem.W.nsIn K mainGlobals "len" = some none)
    (z1 : PySem.W.nsIn K mainGlobals "max" = some none)
    (z2 : PySem.W.nsIn K mainGlobals "min" = some none)
    (z3 : PySem.W.nsIn K mainGlobals "range" = some none)
    (z4 : PySem.W.nsIn K mainGlobals "bool" = some none)
    (z5 : PySem.W.nsIn K mainGlobals "isinstance" = some none)
    (z6 : PySem.W.nsIn K mainGlobals "int" = some none)
    (z7 : PySem.W.nsIn K mainGlobals "all" = some none)
    (z8 : PySem.W.nsIn K mainGlobals "list" = some none)
    (z9 : PySem.W.nsIn K mainGlobals "tuple" = some none)
    (z10 : PySem.W.nsIn K mainGlobals "zip" = some none)
    (z11 : PySem.W.nsIn K mainGlobals "sorted" = some none)
    (z12 : PySem.W.nsIn K mainGlobals "sum" = some none)
    (z13 : PySem.W.nsIn K mainGlobals "abs" = some none)
    (z14 : PySem.W.nsIn K mainGlobals "enumerate" = some none)
    (z15 : PySem.W.nsIn K mainGlobals "set" = some none)
    {t0 : Tok} (gl_0 : PySem.W.nsIn K mainGlobals "BUY" = some (some (.str "buy" t0)))
    {t1 : Tok} (gl_1 : PySem.W.nsIn K mainGlobals "SELL" = some (some (.str "sell" t1)))
    {t2 : Tok} (gl_2 : PySem.W.nsIn K mainGlobals "RANK" = some (some (.str "rank" t2)))
    {t3 : Tok} (gl_3 : PySem.W.nsIn K mainGlobals "SHARE" = some (some (.str "share" t3)))
    {t4 : Tok} (gl_4 : PySem.W.nsIn K mainGlobals "OLD" = some (some (.str "old" t4)))
    {t5 : Tok} (gl_5 : PySem.W.nsIn K mainGlobals "NEW" = some (some (.str "new" t5)))
    {t6 : Tok} (gl_6 : PySem.W.nsIn K mainGlobals "BOTH" = some (some (.str "both" t6)))
    {t7 : Tok} (gl_7 : PySem.W.nsIn K mainGlobals "LESS" = some (some (.str "less" t7)))
    {ocR ocM : Value} {odR odM : Option Addr} {vsR vsM : Array Value} {slR slM : Array (Option Value)} (lcR : K.lookup cR = some ⟨ocR, odR, .fields vsR, slR⟩) (vR : (vsR[11]? : Option Value) = some (.ref PR)) (nR : K.lookup PR = none)
    (lcM : K.lookup cM = some ⟨ocM, odM, .fields vsM, slM⟩) (vM : (vsM[11]? : Option Value) = some (.ref PM)) (nM : K.lookup PM = none) (ne : PR ≠ PM)
    {tR : Tok} (dB : PySem.W.nsIn K DL "band" = some (some .none)) (dA : PySem.W.nsIn K DL "anchor" = some (some .none)) (dR : PySem.W.nsIn K DL "rule" = some (some (.str "rank" tR)))
    : ∃ (c1 P1 c2 P2 : Addr) (fd : FuncData), PySem.W.tabIn K "ranked" = some (c1, P1) ∧ PySem.W.tabIn K "rows_met" = some (c2, P2) ∧ K.lookup P1 = none ∧ K.lookup P2 = none ∧ (∀ (s : Shared) (v : Value), BindsTo s fd ⟨[v], []⟩ [("script", v)]) ∧
      ∀ base : Heap, K.In base → base.Ns mainGlobals mg → LamX.TabB base mg c1 P1 → LamX.TabB base mg c2 P2 → FnOk l.prog w K mg base CX0 6 fa fd ["script"] (@spLaw (tz P1 P2) K) := by
  have tb1 : PySem.W.tabIn K "ranked" = some (cR, PR) := by
    unfold PySem.W.tabIn
    rw [a13]
    simp only
    rw [l13]
    simp only [PySem.W.fnOf]
    rw [lcR]
    simp only
    rw [vR]
  have tb2 : PySem.W.tabIn K "rows_met" = some (cM, PM) := by
    unfold PySem.W.tabIn
    rw [a12]
    simp only
    rw [l12]
    simp only [PySem.W.fnOf]
    rw [lcM]
    simp only
    rw [vM]
  letI : Tabz := tz PR PM
  have mR : (PR, ("ranked.<locals>." : Str) ++ "<lambda>") ∈ Tabz.T := List.mem_cons_self
  have mM : (PM, ("rows_met.<locals>." : Str) ++ "<lambda>") ∈ Tabz.T := List.mem_cons_of_mem _ List.mem_cons_self
  have uR : ∀ p ∈ Tabz.T, p.1 = PR → p.2 = ("ranked.<locals>." : Str) ++ "<lambda>" := fun p hp e => by
    rcases List.mem_cons.mp hp with q | hp
    · rw [q]
    · rw [List.mem_singleton.mp hp] at e
      exact absurd e.symm ne
  have uM : ∀ p ∈ Tabz.T, p.1 = PM → p.2 = ("rows_met.<locals>." : Str) ++ "<lambda>" := fun p hp e => by
    rcases List.mem_cons.mp hp with q | hp
    · rw [q] at e
      exact absurd e ne
    · rw [List.mem_singleton.mp hp]
  have e := hfa.symm.trans (PySem.W.mg_of X G a24)
  cases e
  have T : Txt mg := ⟨PySem.W.mg_none_of X G z0, PySem.W.mg_none_of X G z1, PySem.W.mg_none_of X G z2, PySem.W.mg_none_of X G z3, PySem.W.mg_none_of X G z4, PySem.W.mg_none_of X G z5, PySem.W.mg_none_of X G z6, PySem.W.mg_none_of X G z7, PySem.W.mg_none_of X G z8, PySem.W.mg_none_of X G z9, PySem.W.mg_none_of X G z10, PySem.W.mg_none_of X G z11, PySem.W.mg_none_of X G z12, PySem.W.mg_none_of X G z13, PySem.W.mg_none_of X G z14, PySem.W.mg_none_of X G z15, ⟨_, PySem.W.mg_of X G gl_0⟩, ⟨_, PySem.W.mg_of X G gl_1⟩, ⟨_, PySem.W.mg_of X G gl_2⟩, ⟨_, PySem.W.mg_of X G gl_3⟩, ⟨_, PySem.W.mg_of X G gl_4⟩, ⟨_, PySem.W.mg_of X G gl_5⟩, ⟨_, PySem.W.mg_of X G gl_6⟩, ⟨_, PySem.W.mg_of X G gl_7⟩⟩
  have F1 := fun_mk (st := s_lets) l1 c1 k1
  have b1 := F1.binds (ps := ["price", "side", "other"]) fun _ _ _ _ _ _ us hl => match us, hl with | [_, _, _], _ => rfl
  have F2 := fun_mk (st := s_against) l2 c2 k2
  have b2 := F2.binds (ps := ["side"]) fun _ _ _ _ _ _ us hl => match us, hl with | [_], _ => rfl
  have F3 := fun_mk (st := s_too_far) l3 c3 k3
  have b3 := F3.binds (ps := ["price", "band", "anchor"]) fun _ _ _ _ _ _ us hl => match us, hl with | [_, _, _], _ => rfl
  have F4 := fun_mk (st := s_part_seen) l4 c4 k4
  have b4 := F4.binds (ps := ["shown", "left"]) fun _ _ _ _ _ _ us hl => match us, hl with | [_, _], _ => rfl
  have F5 := fun_mk (st := s_hidden_first) l5 c5 k5
  have b5 := F5.binds (ps := ["row", "amount"]) fun _ _ _ _ _ _ us hl => match us, hl with | [_, _], _ => rfl
  have F6 := fun_mk (st := s_seen_first) l6 c6 k6
  have b6 := F6.binds (ps := ["row", "amount"]) fun _ _ _ _ _ _ us hl => match us, hl with | [_, _], _ => rfl
  have F7 := fun_mk (st := s_shown_anew) l7 c7 k7
  have b7 := F7.binds (ps := ["rows", "rank"]) fun _ _ _ _ _ _ us hl => match us, hl with | [_, _], _ => rfl
  have F8 := fun_mk (st := s_shares) l8 c8 k8
  have b8 := F8.binds (ps := ["left", "seen"]) fun _ _ _ _ _ _ us hl => match us, hl with | [_, _], _ => rfl
  have F9 := fun_mk (st := s_step_with_own) l9 c9 k9
  have b9 := F9.binds (ps := ["row", "coming", "left", "rank"]) fun _ _ _ _ _ _ us hl => match us, hl with | [_, _, _, _], _ => rfl
  have F10 := fun_mk (st := s_step_of_trades) l10 c10 k10
  have b10 := F10.binds (ps := ["met", "coming", "left", "rank"]) fun _ _ _ _ _ _ us hl => match us, hl with | [_, _, _, _], _ => rfl
  have F11 := fun_mk (st := s_step) l11 c11 k11
  have b11 := F11.binds (ps := ["met", "coming", "left", "rank"]) fun _ _ _ _ _ _ us hl => match us, hl with | [_, _, _, _], _ => rfl
  have F12 := fun_mk (st := s_rows_met) l12 c12 k12
  have b12 := F12.binds (ps := ["rows", "side", "rule"]) fun _ _ _ _ _ _ us hl => match us, hl with | [_, _, _], _ => rfl
  have F13 := fun_mk (st := s_ranked) l13 c13 k13
  have b13 := F13.binds (ps := ["rows"]) fun _ _ _ _ _ _ us hl => match us, hl with | [_], _ => rfl
  have F14 := fun_mk (st := s_plain_meet) l14 c14 k14
  have F15 := fun_mk (st := s_law_purse) l15 c15 k15
  have b15 := F15.binds (ps := ["script", "k"]) fun _ _ _ _ _ _ us hl => match us, hl with | [_, _], _ => rfl
  have F16 := fun_mk (st := s_law_coin) l16 c16 k16
  have b16 := F16.binds (ps := ["purse", "many"]) fun _ _ _ _ _ _ us hl => match us, hl with | [_, _], _ => rfl
  have F17 := fun_mk (st := s_law_names) l17 c17 k17
  have b17 := F17.binds (ps := ["purse", "many"]) fun _ _ _ _ _ _ us hl => match us, hl with | [_, _], _ => rfl
  have F18 := fun_mk (st := s_law_level) l18 c18 k18
  have b18 := F18.binds (ps := ["purse", "way"]) fun _ _ _ _ _ _ us hl => match us, hl with | [_, _], _ => rfl
  have F19 := fun_mk (st := s_law_rows) l19 c19 k19
  have b19 := F19.binds (ps := ["purse", "names", "many", "way"]) fun _ _ _ _ _ _ us hl => match us, hl with | [_, _, _, _], _ => rfl
  have F20 := fun_mk (st := s_law_coming) l20 c20 k20
  have b20 := F20.binds (ps := ["purse", "names", "way"]) fun _ _ _ _ _ _ us hl => match us, hl with | [_, _, _], _ => rfl
  have F21 := fun_mk (st := s_law_spaced) l21 c21 k21
  have b21 := F21.binds (ps := ["row"]) fun _ _ _ _ _ _ us hl => match us, hl with | [_], _ => rfl
  have F22 := fun_mk (st := s_law_left) l22 c22 k22
  have b22 := F22.binds (ps := ["rows", "number"]) fun _ _ _ _ _ _ us hl => match us, hl with | [_, _], _ => rfl
  have F23 := fun_mk (st := s_law_joined) l23 c23 k23
  have b23 := F23.binds (ps := ["events", "number"]) fun _ _ _ _ _ _ us hl => match us, hl with | [_, _], _ => rfl
  have F24 := fun_mk (st := s_law) l24 c24 k24
  refine ⟨cR, PR, cM, PM, PySem.W.fnOf "law" "law" (defArgs s_law) (defBody s_law) (defScope s_law) .none kV24 dc24 pm24 an24 cd24 ct24, tb1, tb2, nR, nM, fun s v => .of_eq rfl, fun base _ _ TB1 TB2 => ?_⟩
  have C1 : Cal l.prog w K mg base 1 "lets" ["price", "side", "other"] (spD mLets) := ⟨f1, _, ok_lets F1 T, PySem.W.mg_of X G a1, k1, b1⟩
  have C2 : Cal l.prog w K mg base 1 "against" ["side"] (spD mAg) := ⟨f2, _, ok_against F2 T, PySem.W.mg_of X G a2, k2, b2⟩
  have C3 : Cal l.prog w K mg base 1 "too_far" ["price", "band", "anchor"] (spD mFar) := ⟨f3, _, ok_far F3 T, PySem.W.mg_of X G a3, k3, b3⟩
  have C4 : Cal l.prog w K mg base 1 "part_seen" ["shown", "left"] (spD mPart) := ⟨f4, _, ok_part F4 T, PySem.W.mg_of X G a4, k4, b4⟩
  have C5 : Cal l.prog w K mg base 1 "hidden_first" ["row", "amount"] (spD mHid) := ⟨f5, _, ok_hid F5 T, PySem.W.mg_of X G a5, k5, b5⟩
  have C6 : Cal l.prog w K mg base 1 "seen_first" ["row", "amount"] (spD mSeen) := ⟨f6, _, ok_seen F6 T, PySem.W.mg_of X G a6, k6, b6⟩
  have C7 : Cal l.prog w K mg base 2 "shown_anew" ["rows", "rank"] (spD mAnew) := ⟨f7, _, ok_anew F7 T C4, PySem.W.mg_of X G a7, k7, b7⟩
  have C8 : Cal l.prog w K mg base 1 "shares" ["left", "seen"] (spD mShares) := ⟨f8, _, ok_shares F8 T, PySem.W.mg_of X G a8, k8, b8⟩
  have C9 : Cal l.prog w K mg base 3 "step_with_own" ["row", "coming", "left", "rank"] (spD mOwn) := ⟨f9, _, ok_own F9 T C7 C5, PySem.W.mg_of X G a9, k9, b9⟩
  have C10 : Cal l.prog w K mg base 3 "step_of_trades" ["met", "coming", "left", "rank"] (spD mTrades) := ⟨f10, _, ok_trades F10 T C7 C6 C8, PySem.W.mg_of X G a10, k10, b10⟩
  have C11 : Cal l.prog w K mg base 4 "step" ["met", "coming", "left", "rank"] (spD mStep) := ⟨f11, _, ok_step F11 T C9 C10, PySem.W.mg_of X G a11, k11, b11⟩
  have C12 : Cal l.prog w K mg base 2 "rows_met" ["rows", "side", "rule"] (spD mMet) := ⟨f12, _, ok_met (FunC.mk l12 c12) T TB2 mM uM, PySem.W.mg_of X G a12, k12, b12⟩
  have C13 : Cal l.prog w K mg base 2 "ranked" ["rows"] (spD mRanked) := ⟨f13, _, ok_ranked (FunC.mk l13 c13) T TB1 mR uR, PySem.W.mg_of X G a13, k13, b13⟩
  have GL := ok_meetA F14 T C12 C2 C1 C3 C11 C13
  have FL : FunD K "plain_meet" "plain_meet" (defArgs s_plain_meet) (defBody s_plain_meet) (defScope s_plain_meet) [] [("band", .non), ("anchor", .non), ("rule", .str "rank")] f14 _ := ⟨⟨oc14, od14, .none, .ref DL, dc14, pm14, an14, cd14, ct14, sl14, rfl, l14, c14, .inl ⟨rfl, rfl⟩, .inr ⟨DL, rfl, fun q hq => by
    rcases List.mem_cons.mp hq with e | hq
    · rw [e]; exact ⟨_, dB, rfl⟩
    · rcases List.mem_cons.mp hq with e | hq
      · rw [e]; exact ⟨_, dA, rfl⟩
      · rw [List.mem_singleton.mp hq]; exact ⟨_, dR, _, rfl⟩⟩⟩, k14⟩
  obtain ⟨mw, kb⟩ := FL.kbinds0 (ps := ["rows", "coming", "rank", "band", "anchor", "rule"]) 2 ["rank", "band", "anchor"] [("rule", .str "rank")] (fun us mv ws => us ++ ws ++ mv) (by simp) (fun q hq => by rw [List.mem_singleton.mp hq]; simp) (fun r1 r2 r3 => (r1.append r3).append r2) (fun D doc pm an cdv ct us mv ws h1 h2 h3 => match us, mv, ws, h1, h2, h3 with | [u0, u1], [m0], [w0, w1, w2], _, _, _ => kw_rank D doc pm an cdv ct u0 u1 m0 w0 w1 w2)
  have C15 : Cal l.prog w K mg base 1 "_law_purse" ["script", "k"] (spPurse K) := ⟨f15, _, ok_purse F15 T, PySem.W.mg_of X G a15, k15, b15⟩
  have C16 : Cal l.prog w K mg base 1 "_law_coin" ["purse", "many"] (spCoin) := ⟨f16, _, ok_coin F16, PySem.W.mg_of X G a16, k16, b16⟩
  have C17 : Cal l.prog w K mg base 2 "_law_names" ["purse", "many"] (spNames) := ⟨f17, _, ok_names F17 T C16, PySem.W.mg_of X G a17, k17, b17⟩
  have C18 : Cal l.prog w K mg base 2 "_law_level" ["purse", "way"] (spD mLevel) := ⟨f18, _, ok_level F18 T (coin_D C16), PySem.W.mg_of X G a18, k18, b18⟩
  have C19 : Cal l.prog w K mg base 3 "_law_rows" ["purse", "names", "many", "way"] (spD mRows) := ⟨f19, _, ok_rows F19 T (coin_D C16) C18, PySem.W.mg_of X G a19, k19, b19⟩
  have C20 : Cal l.prog w K mg base 3 "_law_coming" ["purse", "names", "way"] (spD mComing) := ⟨f20, _, ok_coming F20 T (coin_D C16) C18, PySem.W.mg_of X G a20, k20, b20⟩
  have C21 : Cal l.prog w K mg base 1 "_law_spaced" ["row"] (spD mSpaced) := ⟨f21, _, ok_spaced F21 T, PySem.W.mg_of X G a21, k21, b21⟩
  have C22 : Cal l.prog w K mg base 1 "_law_left" ["rows", "number"] (spD mLeft) := ⟨f22, _, ok_left F22 T, PySem.W.mg_of X G a22, k22, b22⟩
  have C23 : Cal l.prog w K mg base 1 "_law_joined" ["events", "number"] (spD mJoin14) := ⟨f23, _, ok_joined14 F23 T, PySem.W.mg_of X G a23, k23, b23⟩
  exact ok_law F24 T C15 (coin_D C16) (names_D C17) C18 C19 C20 C21 C23 C22 ⟨f14, _, GL, PySem.W.mg_of X G a14, k14, _, kb⟩
theorem walk {l : PySem.W.OpenLaw} {q : Program} {loose : List Str} {XP : (Str → Option Value) → Heap → Prop} {YP : World → Heap → Prop} {d : DefRec} {K : Params → PySem.W.Frag} (hn : l.most = some 63) (hdf : d.params.defaults = [])
    (hrec1 : ∃ dr, (PyProof.Rows.recsOf q).find? (fun e => e.name == ("ranked" : Str)) = some dr) (hrec2 : ∃ dr, (PyProof.Rows.recsOf q).find? (fun e => e.name == ("rows_met" : Str)) = some dr) (hY : ∀ (w : World) (h : Heap), YP w h → (K w.params).In h)
    (F : ∀ (w : World) (mg : Str → Option Value) (fa : Addr) (h : Heap), (K w.params).In h → h.Ns mainGlobals mg → mg d.name = some (.ref fa) →
      ∃ (c1 P1 c2 P2 : Addr) (fd : FuncData), PySem.W.tabIn (K w.params) "ranked" = some (c1, P1) ∧ PySem.W.tabIn (K w.params) "rows_met" = some (c2, P2) ∧ (K w.params).lookup P1 = none ∧ (K w.params).lookup P2 = none ∧ (∀ (s : Shared) (u : Value), BindsTo s fd ⟨[u], []⟩ [("script", u)]) ∧
        ∀ base : Heap, (K w.params).In base → base.Ns mainGlobals mg → LamX.TabB base mg c1 P1 → LamX.TabB base mg c2 P2 → FnOk l.prog w (K w.params) mg base CX0 6 fa fd ["script"] (@spLaw (tz P1 P2) (K w.params))) :
    PySem.W.WalkO q loose XP YP l.row.toRowW d [] (fun f vs => PySem.call f vs) := by
  refine Att.attach_callB hn hdf fun w s0 s1 mg mb fa o pm cd doc adr us nums Gr Yh h1 h2 h3 h4 h5 h6 h7 h8 h9 => ?_
  have KX := hY w _ Yh
  obtain ⟨c1, P1, c2, P2, fd, ht1, ht2, nT1, nT2, hb, hF⟩ := F w mg fa _ KX Gr.T.g h4
  obtain ⟨dr1, hdr1⟩ := hrec1
  obtain ⟨dr2, hdr2⟩ := hrec2
  obtain ⟨hC1, hP1⟩ := PySem.W.tab_of Gr.T KX hdr1 ht1
  obtain ⟨hC2, hP2⟩ := PySem.W.tab_of Gr.T KX hdr2 ht2
  have two : ∀ {Z : Addr × Addr → Prop}, Z (c1, P1) → Z (c2, P2) → ∀ p ∈ [(c1, P1), (c2, P2)], Z p := fun z1 z2 p hp => by
    rcases List.mem_cons.mp hp with e | hp
    · rw [e]; exact z1
    · rw [List.mem_singleton.mp hp]; exact z2
  refine LamX.law_callTs (cs := [(c1, P1), (c2, P2)]) (CX := CX0) (k := 6) (sp := @spLaw (tz P1 P2) (K w.params)) (x := "script") KX Gr.T.g Gr.T.b Gr.T.builtins Gr.T.nolimit h9 (two hP1 hP2) (two nT1 nT2) (two hC1 hC2) Gr.T.bmain h5 h6 (Nat.le_trans h7 (by decide)) ⟨rfl, by decide, by decide⟩
    (fun base k1 k2 tB => hF base k1 k2 (tB _ List.mem_cons_self) (tB _ (List.mem_cons_of_mem _ List.mem_cons_self))) hb (fun H hT hS => ⟨adr, nums, rfl, hS, h7, fun p hp => ?_, fun _ => rfl⟩) fun _ _ _ z => z
  rcases List.mem_cons.mp hp with e | hp
  · rw [e]
    exact LamX.TabS.nil (hT _ List.mem_cons_self)
  · rw [List.mem_singleton.mp hp]
    exact LamX.TabS.nil (hT _ (List.mem_cons_of_mem _ List.mem_cons_self))
end Rh
open PySem PySem.W PyProof.Rows
set_option maxRecDepth 100000 in
set_option maxHeartbeats 0 in
theorem PySem.Challenge.cw_ringhall_k14_whole_rows_parted_holds : PySem.Challenge.rw_ringhall_k14_whole_rows_parted.Holds := by
  w_on; o_law; k_head; (case hw => w_witness2)
  k_fill
  refine Rh.walk (l := PySem.Challenge.rw_ringhall_k14_whole_rows_parted) rfl rfl ⟨_, rfl⟩ ⟨_, rfl⟩ (fun w h Y => PySem.W.km_in_of Y) ?F
  case F =>
    intro w mg fa h KX G hmg
    refine' Rh.all_mk KX G hmg ?a1 ?l1 ?c1 ?k1 ?a2 ?l2 ?c2 ?k2 ?a3 ?l3 ?c3 ?k3 ?a4 ?l4 ?c4 ?k4 ?a5 ?l5 ?c5 ?k5 ?a6 ?l6 ?c6 ?k6 ?a7 ?l7 ?c7 ?k7 ?a8 ?l8 ?c8 ?k8 ?a9 ?l9 ?c9 ?k9 ?a10 ?l10 ?c10 ?k10 ?a11 ?l11 ?c11 ?k11 ?a12 ?l12 ?c12 ?k12 ?a13 ?l13 ?c13 ?k13 ?a14 ?l14 ?c14 ?k14 ?a15 ?l15 ?c15 ?k15 ?a16 ?l16 ?c16 ?k16 ?a17 ?l17 ?c17 ?k17 ?a18 ?l18 ?c18 ?k18 ?a19 ?l19 ?c19 ?k19 ?a20 ?l20 ?c20 ?k20 ?a21 ?l21 ?c21 ?k21 ?a22 ?l22 ?c22 ?k22 ?a23 ?l23 ?c23 ?k23 ?a24 ?l24 ?c24 ?k24 ?z0 ?z1 ?z2 ?z3 ?z4 ?z5 ?z6 ?z7 ?z8 ?z9 ?z10 ?z11 ?z12 ?z13 ?z14 ?z15 ?gl_0 ?gl_1 ?gl_2 ?gl_3 ?gl_4 ?gl_5 ?gl_6 ?gl_7 ?lcR ?vR ?nR ?lcM ?vM ?nM ?ne ?dB ?dA ?dR
    (case a1 => k_is)
    (case l1 => k_is)
    (case c1 => k_is)
    (case k1 => k_is)
    (case a2 => k_is)
    (case l2 => k_is)
    (case c2 => k_is)
    (case k2 => k_is)
    (case a3 => k_is)
    (case l3 => k_is)
    (case c3 => k_is)
    (case k3 => k_is)
    (case a4 => k_is)
    (case l4 => k_is)
    (case c4 => k_is)
    (case k4 => k_is)
    (case a5 => k_is)
    (case l5 => k_is)
    (case c5 => k_is)
    (case k5 => k_is)
    (case a6 => k_is)
    (case l6 => k_is)
    (case c6 => k_is)
    (case k6 => k_is)
    (case a7 => k_is)
    (case l7 => k_is)
    (case c7 => k_is)
    (case k7 => k_is)
    (case a8 => k_is)
    (case l8 => k_is)
    (case c8 => k_is)
    (case k8 => k_is)
    (case a9 => k_is)
    (case l9 => k_is)
    (case c9 => k_is)
    (case k9 => k_is)
    (case a10 => k_is)
    (case l10 => k_is)
    (case c10 => k_is)
    (case k10 => k_is)
    (case a11 => k_is)
    (case l11 => k_is)
    (case c11 => k_is)
    (case k11 => k_is)
    (case a12 => k_is)
    (case l12 => k_is)
    (case c12 => k_is)
    (case k12 => k_is)
    (case a13 => k_is)
    (case l13 => k_is)
    (case c13 => k_is)
    (case k13 => k_is)
    (case a14 => k_is)
    (case l14 => k_is)
    (case c14 => k_is)
    (case k14 => k_is)
    (case a15 => k_is)
    (case l15 => k_is)
    (case c15 => k_is)
    (case k15 => k_is)
    (case a16 => k_is)
    (case l16 => k_is)
    (case c16 => k_is)
    (case k16 => k_is)
    (case a17 => k_is)
    (case l17 => k_is)
    (case c17 => k_is)
    (case k17 => k_is)
    (case a18 => k_is)
    (case l18 => k_is)
    (case c18 => k_is)
    (case k18 => k_is)
    (case a19 => k_is)
    (case l19 => k_is)
    (case c19 => k_is)
    (case k19 => k_is)
    (case a20 => k_is)
    (case l20 => k_is)
    (case c20 => k_is)
    (case k20 => k_is)
    (case a21 => k_is)
    (case l21 => k_is)
    (case c21 => k_is)
    (case k21 => k_is)
    (case a22 => k_is)
    (case l22 => k_is)
    (case c22 => k_is)
    (case k22 => k_is)
    (case a23 => k_is)
    (case l23 => k_is)
    (case c23 => k_is)
    (case k23 => k_is)
    (case a24 => k_is)
    (case l24 => k_is)
    (case c24 => k_is)
    (case k24 => k_is)
    (case z0 => k_is)
    (case z1 => k_is)
    (case z2 => k_is)
    (case z3 => k_is)
    (case z4 => k_is)
    (case z5 => k_is)
    (case z6 => k_is)
    (case z7 => k_is)
    (case z8 => k_is)
    (case z9 => k_is)
    (case z10 => k_is)
    (case z11 => k_is)
    (case z12 => k_is)
    (case z13 => k_is)
    (case z14 => k_is)
    (case z15 => k_is)
    (case gl_0 => k_is)
    (case gl_1 => k_is)
    (case gl_2 => k_is)
    (case gl_3 => k_is)
    (case gl_4 => k_is)
    (case gl_5 => k_is)
    (case gl_6 => k_is)
    (case gl_7 => k_is)
    (case lcR => k_is)
    (case vR => rfl)
    (case nR => first | kernel_rfl | rfl)
    (case lcM => k_is)
    (case vM => rfl)
    (case nM => first | kernel_rfl | rfl)
    (case ne => first | decide | simp | exact fun h => by cases h)
    (case dB => k_is)
    (case dA => k_is)
    (case dR => k_is)
