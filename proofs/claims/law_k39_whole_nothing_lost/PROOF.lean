import PyProof.Rows.All
import Wide.All
import OpenK.AllK
import Wide.FinOn
import HandS.ForMost
import HandS.IsInst
import HandS.Wide
import HandS.Codes
import HandS.Walk
import HandS.Deep
import HandS.Lambda
import HandS.SortKw
import KE.SortKeyHeap
import KE.SortLaws
import KE.KLam
import HandS.EndBits
import HandS.EndTab
import HandS.Zip
import HandS.Rev
import HandS.Defaults
import HandS.Flow
import HandS.Strs
import HandS.SetBool
import HandS.SetFor
import HandS.SetKeys
import HandS.Style
import HandS.TupAny
import HandS.RaiseMore
import HandS.Text
import HandS.Dict
import HandS.SortInts
import KE.KSortKey
import KE.KDictZip
import KE.GoesEnum
import KE.GoesMore
import KE.GoesZip
import HandS.MakeKwOnly
import HandS.Iter
import HandS.WordsDict
import HandS.More
import HandS.TupSets
import HandS.Set
import PyProof.SetRoads
import PyProof.SetKind
import PyProof.SetNew
import PySem.Challenge.RW_ringhall_k39_whole_nothing_lost
set_option Elab.async false
set_option linter.all false
set_option maxHeartbeats 4000000
set_option maxRecDepth 100000
set_option exponentiation.threshold 2000
namespace Rh
open PySem L2
def topS (i : Nat) : Stmt := PySem.Challenge.pw_ringhall_k39_whole_nothing_lost.main.body.getD i (.Pass ⟨0, 0, 0, 0⟩)
/-! ### the purse -/
def Pu (H : Hp) (p : Addr) (n : Int) : Prop := ∃ own seed cnt : Int, H p = some (.lst [.int own, .int seed, .int cnt]) ∧ 0 ≤ own ∧ 0 ≤ seed ∧ seed < 2 ^ 63 ∧ 0 ≤ cnt ∧ cnt ≤ n
def Keep (p : Addr) (H H' : Hp) : Prop := ∀ b o, b ≠ p → H b = some o → H' b = some o
theorem Keep.refl (p : Addr) (H : Hp) : Keep p H H := fun _ _ _ h => h
theorem Keep.trans {p : Addr} {H H1 H2 : Hp} (a : Keep p H H1) (b : Keep p H1 H2) : Keep p H H2 := fun c o n h => b c o n (a c o n h)
theorem Keep.same {p : Addr} {H H' : Hp} (s : Same H H') : Keep p H H' := fun c o _ h => s c o h
theorem Same.keep {p : Addr} {H0 H H' : Hp} (s : Same H0 H) (k : Keep p H H') (n : H0 p = none) : Same H0 H' := fun b o h => k b o (ne_of_none h n) (s b o h)
theorem Same.new {H : Hp} {p : Addr} {o : HO} (h : H p = none) : Same H (upd H p o) := fun a u e => by
  rw [upd_ne (ne_of_none e h)]
  exact e
theorem Pu.same {H H' : Hp} {p : Addr} {n : Int} (u : Pu H p n) (s : Same H H') : Pu H' p n := by
  obtain ⟨a, b, c, h, r⟩ := u
  exact ⟨a, b, c, s _ _ h, r⟩
theorem Pu.mono {H : Hp} {p : Addr} {n m : Int} (u : Pu H p n) (h : n ≤ m) : Pu H p m := by
  obtain ⟨a, b, c, h1, h2, h3, h4, h5, h6⟩ := u
  exact ⟨a, b, c, h1, h2, h3, h4, h5, by omega⟩

def spPurse (K : PySem.W.Frag) : Sp := fun vs H Q _ => ∃ (a : Addr) (ns : List Int) (k : Int), vs = [.ref a, .int k] ∧ SqL K H a (ns.map V.int) ∧ ns.length ≤ 63 ∧ 0 ≤ k ∧ k < 64 ∧ ∀ p H', H p = none → Same H H' → Pu H' p 0 → Q (.ref p) H'
def spCoin : Sp := fun vs H Q _ => ∃ (p : Addr) (many n : Int), vs = [.ref p, .int many] ∧ Pu H p n ∧ n < 2 ^ 30 ∧ 1 ≤ many ∧ many < 2 ^ 300 ∧
  ∀ r H', 0 ≤ r → r < many → Pu H' p (n + 1) → Keep p H H' → Q (.int r) H'

/-- a def that stands under its name and keeps its promise -/
def Cal (P : Program) (w : World) (K : PySem.W.Frag) (mg : Str → Option Value) (base : Heap) (k : Nat) (x : Str) (ps : List Str) (sp : Sp) : Prop :=
  ∃ (f : Addr) (fd : FuncData), FnOk P w K mg base CX0 k f fd ps sp ∧ mg x = some (.ref f) ∧ PySem.W.keepIn K (.ref f) = true ∧ Binds K fd ps []

abbrev primesL : List V := [.int 2147483489, .int 2147483477, .int 2147483423, .int 2147483399, .int 2147483353, .int 2147483323, .int 2147483269, .int 2147483249]
theorem prime_at {i : Int} (h0 : 0 ≤ i) (h8 : i < 8) : ∃ v : Int, atI primesL i = some (.int v) ∧ 2147483249 ≤ v ∧ v ≤ 2147483489 := by
  have h : i = 0 ∨ i = 1 ∨ i = 2 ∨ i = 3 ∨ i = 4 ∨ i = 5 ∨ i = 6 ∨ i = 7 := by omega
  rcases h with h | h | h | h | h | h | h | h <;> subst h <;> exact ⟨_, rfl, by decide, by decide⟩

theorem yesC {σ : L2.St} {H : Hp} {A B : Hp → Prop} (h : A H) : tYes σ H (fun b H3 => if b = true then A H3 else B H3) := by
  show (if true = true then A H else B H)
  rw [if_pos rfl]
  exact h

/-! ### data readings: what stands in the heap as data -/
/-- the tables of code objects that may grow -/
class Tabz where
  T : List (Addr × Str)
/-- a family of states: what holds of a state's data (in the heap where all that may change is hidden), of what may be changed, where that stands -/
class Fam where
  S : Type
  Tq : V → V → Hp → Hp → S → Prop
  Pq : V → V → S → Addr → Prop
  mv : ∀ {u t : V} {M M' H H' : Hp} {n : S}, Tq u t M H n → (∀ b o, (∀ ps, o ≠ HO.tbl ps) → M b = some o → M' b = some o) → (∀ b o, Pq u t n b → H b = some o → H' b = some o) → Tq u t M' H' n
  ty : ∀ {u t : V} {M H : Hp} {n : S} {a : Addr}, Tq u t M H n → Pq u t n a → ∃ o, H a = some o ∧ ∀ ps, o ≠ HO.tbl ps
mutual
inductive Rp (H : Hp) : V → PyData → Prop
  | non : Rp H .non .none
  | bl (b : Bool) : Rp H (.bl b) (.bool b)
  | int (i : Int) : Rp H (.int i) (.int i)
  | str (x : Str) : Rp H (.str x) (.str x)
  | hnd (a : Addr) : Rp H (.ref a) (.dict [(.none, .int (a : Nat))])
  | lst {a : Addr} {xs : List V} {ds : List PyData} : H a = some (.lst xs) → RpA H xs ds → Rp H (.ref a) (.list ds)
  | tup {a : Addr} {xs : List V} {ds : List PyData} : H a = some (.tup xs) → RpA H xs ds → Rp H (.ref a) (.tuple ds)
inductive RpA (H : Hp) : List V → List PyData → Prop
  | nil : RpA H [] []
  | cons {v : V} {vs : List V} {d : PyData} {ds : List PyData} : Rp H v d → RpA H vs ds → RpA H (v :: vs) (d :: ds)
end
/-- all but tables of code objects stays -/
def Xt (H H' : Hp) : Prop := ∀ b o, (∀ ps, o ≠ HO.tbl ps) → H b = some o → H' b = some o
theorem Rp.ex {M M' : Hp} {v : V} {d : PyData} (r : Rp M v d) (e : Xt M M') : Rp M' v d := by
  refine Rp.rec (motive_1 := fun v d _ => Rp M' v d) (motive_2 := fun vs ds _ => RpA M' vs ds) .non (fun b => .bl b) (fun i => .int i) (fun x => .str x) (fun a => .hnd a) ?_ ?_ .nil ?_ r
  · intro a xs ds h _ ih
    exact .lst (e _ _ (fun ps z => by cases z) h) ih
  · intro a xs ds h _ ih
    exact .tup (e _ _ (fun ps z => by cases z) h) ih
  · intro v vs d ds _ _ h1 h2
    exact .cons h1 h2
theorem RpA.ex {M M' : Hp} {vs : List V} {ds : List PyData} (r : RpA M vs ds) (e : Xt M M') : RpA M' vs ds := by
  refine RpA.rec (motive_1 := fun v d _ => Rp M' v d) (motive_2 := fun vs ds _ => RpA M' vs ds) .non (fun b => .bl b) (fun i => .int i) (fun x => .str x) (fun a => .hnd a) ?_ ?_ .nil ?_ r
  · intro a xs ds h _ ih
    exact .lst (e _ _ (fun ps z => by cases z) h) ih
  · intro a xs ds h _ ih
    exact .tup (e _ _ (fun ps z => by cases z) h) ih
  · intro v vs d ds _ _ h1 h2
    exact .cons h1 h2
theorem Rp.dp {K : PySem.W.Frag} {M : Hp} {v : V} {d : PyData} (r : Rp M v d) (hl : d.canLay0 = true) : Dp K M v d := by
  refine Rp.rec (motive_1 := fun v d _ => d.canLay0 = true → Dp K M v d) (motive_2 := fun vs ds _ => PyData.canLayAll0 ds = true → DpAll K M vs ds) (fun _ => .non) (fun b _ => .bl b) (fun i _ => .int i) (fun x _ => .str x) ?_ ?_ ?_ (fun _ => .nil) ?_ r hl
  · intro a h
    simp [PyData.canLay0] at h
  · intro a xs ds h _ ih hl
    exact .lst (SqL.of h) (ih (by simpa [PyData.canLay0] using hl))
  · intro a xs ds h _ ih hl
    exact .tup (SqT.of h) (ih (by simpa [PyData.canLay0] using hl))
  · intro v vs d ds _ _ h1 h2 hl
    simp only [PyData.canLayAll0, Bool.and_eq_true] at hl
    exact .cons (h1 hl.1) (h2 hl.2)
theorem RpA.length {M : Hp} : ∀ {vs : List V} {ds : List PyData}, RpA M vs ds → vs.length = ds.length
  | _, _, .nil => rfl
  | _, _, .cons _ t => by
    show _ + 1 = _ + 1
    rw [RpA.length t]
theorem RpA.get {M : Hp} : ∀ {vs : List V} {ds : List PyData} {i : Nat} {d : PyData}, RpA M vs ds → ds[i]? = some d → ∃ v, vs[i]? = some v ∧ Rp M v d
  | _, _, _, _, .nil, e => by simp at e
  | _, _, 0, _, .cons r _, e => by
    simp at e
    subst e
    exact ⟨_, rfl, r⟩
  | _, _, i + 1, d, .cons _ t, e => by
    obtain ⟨v, h1, h2⟩ := RpA.get (i := i) (d := d) t (by simpa using e)
    exact ⟨v, by simpa using h1, h2⟩
theorem RpA.app {M : Hp} : ∀ {vs ws : List V} {ds es : List PyData}, RpA M vs ds → RpA M ws es → RpA M (vs ++ ws) (ds ++ es)
  | _, _, _, _, .nil, s => s
  | _, _, _, _, .cons r t, s => .cons r (RpA.app t s)
theorem RpA.one {M : Hp} {v : V} {d : PyData} (r : Rp M v d) : RpA M [v] [d] := .cons r .nil
theorem RpA.set {M : Hp} {v : V} {d : PyData} (r : Rp M v d) : ∀ {vs : List V} {ds : List PyData} (i : Nat), RpA M vs ds → RpA M (vs.set i v) (ds.set i d)
  | _, _, _, .nil => .nil
  | _, _, 0, .cons _ t => .cons r t
  | _, _, i + 1, .cons q t => .cons q (RpA.set r i t)
theorem RpA.take {M : Hp} : ∀ {vs : List V} {ds : List PyData} (n : Nat), RpA M vs ds → RpA M (vs.take n) (ds.take n)
  | _, _, 0, _ => .nil
  | _, _, _ + 1, .nil => .nil
  | _, _, n + 1, .cons r t => .cons r (RpA.take n t)
theorem RpA.drop {M : Hp} : ∀ {vs : List V} {ds : List PyData} (n : Nat), RpA M vs ds → RpA M (vs.drop n) (ds.drop n)
  | _, _, 0, r => r
  | _, _, _ + 1, .nil => .nil
  | _, _, n + 1, .cons _ t => RpA.drop n t
theorem RpA.rev {M : Hp} : ∀ {vs : List V} {ds : List PyData}, RpA M vs ds → RpA M vs.reverse ds.reverse
  | _, _, .nil => .nil
  | _, _, .cons r t => by
    rw [List.reverse_cons, List.reverse_cons]
    exact (RpA.rev t).app (.one r)
theorem RpA.ints {M : Hp} : ∀ {vs : List V} {ns : List Int}, RpA M vs (ns.map PyData.int) → vs = ns.map V.int
  | [], [], _ => rfl
  | _, [], h => by cases h; rfl
  | _, n :: ns, h => by
    cases h with
    | cons r t =>
      cases r
      rw [RpA.ints t]
      rfl
theorem RpA.bools {M : Hp} : ∀ {vs : List V} {ns : List Bool}, RpA M vs (ns.map PyData.bool) → vs = ns.map V.bl
  | [], [], _ => rfl
  | _, [], h => by cases h; rfl
  | _, n :: ns, h => by
    cases h with
    | cons r t =>
      cases r
      rw [RpA.bools t]
      rfl
/-- a heap with some places hidden -/
noncomputable def msk (B : Addr → Prop) (H : Hp) : Hp := fun b => open Classical in if B b then none else H b
theorem msk_out {B : Addr → Prop} {H : Hp} {b : Addr} (n : ¬ B b) : msk B H b = H b := by
  unfold msk
  rw [if_neg n]
theorem msk_some {B : Addr → Prop} {H : Hp} {b : Addr} {o : HO} (h : msk B H b = some o) : ¬ B b ∧ H b = some o := by
  unfold msk at h
  split at h
  · cases h
  · exact ⟨by assumption, h⟩
theorem msk_le {B : Addr → Prop} {H : Hp} : Xt (msk B H) H := fun b o _ h => (msk_some h).2
/-- what a place is new ahead of: nothing stands there, or a table -/
def Fresh (H : Hp) (a : Addr) : Prop := ∀ o, H a = some o → ∃ ps, o = HO.tbl ps
theorem Fresh.of {H : Hp} {a : Addr} (h : H a = none) : Fresh H a := fun o e => by
  rw [h] at e
  cases e
/-- what a name holds, what is told: data; a list or a dict of one's own; a value as it is -/
inductive DV where
  | un | tape | raw (v : V) | d (x : PyData) | own (xs : List PyData) | dic (kvs : List (Key × PyData))
def DV.isOwn : DV → Bool
  | .own _ => true
  | .dic _ => true
  | _ => false
inductive KRp (M : Hp) : List (Key × V) → List (Key × PyData) → Prop
  | nil : KRp M [] []
  | cons {k : Key} {v : V} {d : PyData} {ws : List (Key × V)} {kvs : List (Key × PyData)} : Rp M v d → KRp M ws kvs → KRp M ((k, v) :: ws) ((k, d) :: kvs)
theorem KRp.ex {M M' : Hp} {ws : List (Key × V)} {kvs : List (Key × PyData)} (r : KRp M ws kvs) (e : Xt M M') : KRp M' ws kvs := by
  induction r with
  | nil => exact .nil
  | cons h _ ih => exact .cons (h.ex e) ih
section
variable [Fam] [Tabz]
/-- where a def stands: the heap and the state at its entry, what its callers keep apart, what may be changed, what holds of that -/
structure EC where
  H0 : Hp
  n0 : Fam.S
  B0 : Addr → Prop
  t : V
  u : V
  pins : List (V × PyData)
  Bs : ∀ a, B0 a → (∃ o, H0 a = some o ∧ ∀ ps, o ≠ HO.tbl ps) ∧ ¬ Fam.Pq u t n0 a
/-- what may be changed, what holds of it -/
def EC.P (c : EC) (n : Fam.S) (a : Addr) : Prop := Fam.Pq c.u c.t n a
def EC.B (c : EC) (n : Fam.S) (a : Addr) : Prop := c.B0 a ∨ c.P n a
def EC.G (c : EC) (n : Fam.S) (M H : Hp) : Prop := Fam.Tq c.u c.t M H n ∧ LamX.Tabs Tabz.T H
theorem Tabs_mv {T : List (Addr × Str)} {H H' : Hp} (h : LamX.Tabs T H) (k : ∀ b o, (∀ xs, o ≠ HO.lst xs) → (∀ kvs, o ≠ HO.dK kvs) → (∀ C dx fs, o ≠ HO.ins C dx fs) → H b = some o → H' b = some o) : LamX.Tabs T H' := fun p hp => by
  obtain ⟨ps, h1, h2, h3⟩ := h p hp
  refine ⟨ps, k _ _ (fun xs z => by cases z) (fun xs z => by cases z) (fun _ _ _ z => by cases z) h1, h2, fun pos cv hc => ?_⟩
  obtain ⟨c, e1, e2⟩ := h3 pos cv hc
  exact ⟨c, e1, k _ _ (fun xs z => by cases z) (fun xs z => by cases z) (fun _ _ _ z => by cases z) e2⟩
theorem EC.Gm (c : EC) (n : Fam.S) (M M' H H' : Hp) (g : c.G n M H) (m : Xt M M') (k : ∀ b o, (∀ xs, o ≠ HO.lst xs) → (∀ kvs, o ≠ HO.dK kvs) → (∀ C dx fs, o ≠ HO.ins C dx fs) → H b = some o → H' b = some o) (k2 : ∀ b o, c.P n b → H b = some o → H' b = some o) : c.G n M' H' :=
  ⟨Fam.mv g.1 m k2, Tabs_mv g.2 k⟩
theorem EC.Gx (c : EC) {n : Fam.S} {M M' H : Hp} (g : c.G n M H) (m : Xt M M') : c.G n M' H := c.Gm n M M' H H g m (fun _ _ _ _ _ h => h) fun _ _ _ h => h
theorem EC.Gs (c : EC) (n : Fam.S) (M H : Hp) (a : Addr) (g : c.G n M H) (p : c.P n a) : ∃ o, H a = some o ∧ ∀ ps, o ≠ HO.tbl ps := Fam.ty g.1 p
def EC.av (c : EC) (n : Fam.S) (A : Nat → Option Addr) : Addr → Prop := fun b => c.B n b ∨ ∃ i, A i = some b
def EC.pin (c : EC) (l : List (V × PyData)) : EC := { c with pins := l ++ c.pins }
theorem EC.PB (c : EC) {n : Fam.S} {a : Addr} (p : c.P n a) : c.B n a := .inr p
/-- what stays -/
def Stay (P P' : Addr → Prop) (H H' : Hp) : Prop := ∀ b o, (∀ ps, o ≠ HO.tbl ps) → H b = some o → (¬ P b → H' b = some o ∧ ¬ P' b) ∧ ∃ o', H' b = some o' ∧ ∀ ps, o' ≠ HO.tbl ps
theorem Stay.refl {P : Addr → Prop} {H : Hp} : Stay P P H H := fun _ o q h => ⟨fun p => ⟨h, p⟩, o, h, q⟩
theorem Stay.trans {P P' P2 : Addr → Prop} {H H' H2 : Hp} (a : Stay P P' H H') (b : Stay P' P2 H' H2) : Stay P P2 H H2 := fun x o q h => ⟨fun p => (b x o q ((a x o q h).1 p).1).1 ((a x o q h).1 p).2, by
  obtain ⟨_, o', h1, h2⟩ := a x o q h
  exact (b x o' h2 h1).2⟩
theorem Stay.same {P : Addr → Prop} {H H' : Hp} (s : ∀ b o, H b = some o → H' b = some o) : Stay P P H H' := fun b o q h => ⟨fun p => ⟨s b o h, p⟩, o, s b o h, q⟩
theorem Stay.k {P P' : Addr → Prop} {H H' : Hp} (s : Stay P P' H H') {b : Addr} {o : HO} (p : ¬ P b) (q : ∀ ps, o ≠ HO.tbl ps) (h : H b = some o) : H' b = some o := ((s b o q h).1 p).1
theorem Stay.n {P P' : Addr → Prop} {H H' : Hp} (s : Stay P P' H H') {b : Addr} {o : HO} (p : ¬ P b) (q : ∀ ps, o ≠ HO.tbl ps) (h : H b = some o) : ¬ P' b := ((s b o q h).1 p).2
/-- a list, a dict of one's own that is told, hidden, too -/
def hide : DV → V → (Addr → Prop) → Addr → Prop
  | .own _, v, B => fun b => B b ∨ v = .ref b
  | .dic _, v, B => fun b => B b ∨ v = .ref b
  | _, _, B => B
theorem hide_le {r : DV} {v : V} {B : Addr → Prop} {b : Addr} (h : B b) : hide r v B b := by
  cases r <;> first | exact .inl h | exact h
theorem hide_xt {r : DV} {v : V} {B : Addr → Prop} {H : Hp} : Xt (msk (hide r v B) H) (msk B H) := fun b o _ e => by
  obtain ⟨h1, h2⟩ := msk_some e
  rw [msk_out fun z => h1 (hide_le z)]
  exact h2
def FrV (c : EC) (A : Nat → Option Addr) (n n' : Fam.S) (H H' : Hp) (v : V) (r : DV) : Prop := Stay (c.P n) (c.P n') H H' ∧ c.G n' (msk (hide r v (c.av n' A)) H') H'
abbrev Fr (c : EC) (A : Nat → Option Addr) (n n' : Fam.S) (H H' : Hp) : Prop := FrV c A n n' H H' .non .un
theorem FrV.k {c : EC} {A : Nat → Option Addr} {n n' : Fam.S} {H H' : Hp} {v : V} {r : DV} (f : FrV c A n n' H H' v r) (b : Addr) (o : HO) (p : ¬ c.P n b) (q : ∀ ps, o ≠ HO.tbl ps) (h : H b = some o) : H' b = some o := f.1.k p q h
theorem FrV.g {c : EC} {A : Nat → Option Addr} {n n' : Fam.S} {H H' : Hp} {v : V} {r : DV} (f : FrV c A n n' H H' v r) : c.G n' (_root_.Rh.msk (c.av n' A) H') H' := c.Gx f.2 hide_xt
theorem FrV.fr {c : EC} {A : Nat → Option Addr} {n n' : Fam.S} {H H' : Hp} {v : V} {r : DV} (f : FrV c A n n' H H' v r) : Fr c A n n' H H' := ⟨f.1, f.g⟩
theorem FrV.refl {c : EC} {A : Nat → Option Addr} {n : Fam.S} {H : Hp} {v : V} {r : DV} (g : c.G n (_root_.Rh.msk (hide r v (c.av n A)) H) H) : FrV c A n n H H v r := ⟨.refl, g⟩
theorem Fr.refl {c : EC} {A : Nat → Option Addr} {n : Fam.S} {H : Hp} (g : c.G n (_root_.Rh.msk (c.av n A) H) H) : Fr c A n n H H := ⟨.refl, g⟩
theorem FrV.trans {c : EC} {A : Nat → Option Addr} {n m k : Fam.S} {H H1 H2 : Hp} {v w : V} {r s : DV} (a : FrV c A n m H H1 v r) (b : FrV c A m k H1 H2 w s) : FrV c A n k H H2 w s := ⟨a.1.trans b.1, b.2⟩
theorem FrV.msk {c : EC} {n m : Fam.S} {A : Nat → Option Addr} {H H' : Hp} {v : V} {r : DV} (f : FrV c A n m H H' v r) : Xt (_root_.Rh.msk (c.av n A) H) (_root_.Rh.msk (c.av m A) H') := fun b o q h => by
  obtain ⟨h1, h2⟩ := msk_some h
  have h3 := f.1.k (fun p => h1 (.inl (c.PB p))) q h2
  have h4 := f.1.n (fun p => h1 (.inl (c.PB p))) q h2
  rw [msk_out]
  · exact h3
  · rintro ((z | z) | z)
    · exact h1 (.inl (.inl z))
    · exact h4 z
    · exact h1 (.inr z)
theorem Fr.new {c : EC} {A : Nat → Option Addr} {n : Fam.S} {H : Hp} {p : Addr} {o : HO} (g : c.G n (_root_.Rh.msk (c.av n A) H) H) (h : H p = none) : Fr c A n n H (upd H p o) := by
  refine ⟨.same fun b u e => ?_, c.Gm n _ _ H _ g (fun b u _ e => ?_) (fun b u _ _ _ e => ?_) fun b u _ e => ?_⟩
  · rw [upd_ne (ne_of_none e h)]; exact e
  · obtain ⟨h1, h2⟩ := msk_some e
    show _root_.Rh.msk (c.av n A) (upd H p o) b = some u
    rw [msk_out h1, upd_ne (ne_of_none h2 h)]
    exact h2
  · rw [upd_ne (ne_of_none e h)]; exact e
  · rw [upd_ne (ne_of_none e h)]; exact e
/-- a name's slot -/
def SlOk (t : V) (M H : Hp) (ao : Option Addr) (s : Option (Option V)) : DV → Prop
  | .un => True
  | .tape => s = some (some t) ∧ ∃ a, t = .ref a
  | .raw v => s = some (some v)
  | .d x => ∃ v, s = some (some v) ∧ Rp M v x
  | .own ds => ∃ a vs, ao = some a ∧ s = some (some (.ref a)) ∧ H a = some (.lst vs) ∧ RpA M vs ds
  | .dic kvs => ∃ a ws, ao = some a ∧ s = some (some (.ref a)) ∧ H a = some (.dK ws) ∧ KRp M ws kvs
structure EnvA (c : EC) (A : Nat → Option Addr) (n : Fam.S) (σ : L2.St) (H : Hp) (ρ : List DV) : Prop where
  keep : Stay (c.P c.n0) (c.P n) c.H0 H
  g : c.G n (msk (c.av n A) H) H
  new : ∀ i a, A i = some a → Fresh c.H0 a
  has : ∀ i a, A i = some a → (∃ o, H a = some o ∧ ∀ ps, o ≠ HO.tbl ps) ∧ ¬ c.P n a
  inj : ∀ i j a, A i = some a → A j = some a → i = j
  slot : ∀ i x, ρ[i]? = some x → SlOk c.t (msk (c.av n A) H) H (A i) (σ[i]?) x
  len : ρ.length = σ.length
  pin : ∀ p ∈ c.pins, Rp (msk (c.av n A) H) p.1 p.2
  fin : ∃ N, ∀ k, N ≤ k → A k = none
  mine : ∀ i a x, A i = some a → ρ[i]? = some x → x.isOwn = true
section
variable {c : EC} {A : Nat → Option Addr} {n m k : Fam.S} {σ : L2.St} {H H' H1 : Hp} {ρ : List DV}
def A0 : Nat → Option Addr := fun _ => none
theorem EC.Gmk (c : EC) {n : Fam.S} {A A' : Nat → Option Addr} {H : Hp} (g : c.G n (msk (c.av n A) H) H) (k : ∀ i a, A' i = some a → ∃ j, A j = some a) : c.G n (msk (c.av n A') H) H := c.Gx g fun b o _ e => by
  obtain ⟨h1, h2⟩ := msk_some e
  rw [msk_out]
  · exact h2
  · rintro (z | ⟨i, z⟩)
    · exact h1 (.inl z)
    · exact h1 (.inr (k i b z))
theorem EnvA.fr0 (E : EnvA c A n σ H ρ) : Fr c A0 c.n0 n c.H0 H := ⟨E.keep, c.Gmk E.g fun i a e => by cases e⟩
theorem EnvA.nB (E : EnvA c A n σ H ρ) {b : Addr} (h : c.B0 b) : ∃ o, (H b = some o ∧ ∀ ps, o ≠ HO.tbl ps) ∧ ¬ c.P n b := by
  obtain ⟨⟨o, h1, h2⟩, h3⟩ := c.Bs b h
  exact ⟨o, ⟨E.keep.k h3 h2 h1, h2⟩, E.keep.n h3 h2 h1⟩
theorem EnvA.nP (E : EnvA c A n σ H ρ) {i : Nat} {a : Addr} (h : A i = some a) : ¬ c.B n a := fun b => by
  rcases b with b | b
  · obtain ⟨⟨o, h1, h2⟩, h3⟩ := c.Bs a b
    obtain ⟨ps, e⟩ := E.new i a h o h1
    exact h2 ps e
  · exact (E.has i a h).2 b
theorem EnvA.there (E : EnvA c A n σ H ρ) {b : Addr} (h : c.av n A b) : ∃ o, H b = some o ∧ ∀ ps, o ≠ HO.tbl ps := by
  rcases h with (h | p) | ⟨i, h⟩
  · obtain ⟨o, h1, _⟩ := E.nB h
    exact ⟨o, h1⟩
  · exact c.Gs n _ H b E.g p
  · exact (E.has i b h).1
theorem EnvA.apart (E : EnvA c A n σ H ρ) {b : Addr} (h : Fresh H b) : ¬ c.av n A b := fun q => by
  obtain ⟨o, h1, h2⟩ := E.there q
  obtain ⟨ps, e⟩ := h o h1
  exact h2 ps e
theorem SlOk.ex {t : V} {M M' : Hp} {ao : Option Addr} {s : Option (Option V)} {x : DV} (h : SlOk t M H ao s x) (e : Xt M M') (k : ∀ a o, ao = some a → (∀ ps, o ≠ HO.tbl ps) → H a = some o → H' a = some o) : SlOk t M' H' ao s x := by
  cases x with
  | un => exact True.intro
  | tape => exact h
  | raw v => exact h
  | d x =>
    obtain ⟨v, h1, h2⟩ := h
    exact ⟨v, h1, h2.ex e⟩
  | own ds =>
    obtain ⟨a, vs, h1, h2, h3, h4⟩ := h
    exact ⟨a, vs, h1, h2, k a _ h1 (fun ps z => by cases z) h3, h4.ex e⟩
  | dic kvs =>
    obtain ⟨a, vs, h1, h2, h3, h4⟩ := h
    exact ⟨a, vs, h1, h2, k a _ h1 (fun ps z => by cases z) h3, h4.ex e⟩
theorem EnvA.fr {v : V} {r : DV} (E : EnvA c A n σ H ρ) (f : FrV c A n m H H' v r) : EnvA c A m σ H' ρ where
  keep := E.keep.trans f.1
  g := f.g
  new := E.new
  has := fun i a h => by
    obtain ⟨⟨o, h1, h2⟩, h3⟩ := E.has i a h
    exact ⟨⟨o, f.k a o h3 h2 h1, h2⟩, f.1.n h3 h2 h1⟩
  inj := E.inj
  slot := fun i x h => (E.slot i x h).ex f.msk fun a o h1 h2 h3 => f.k a o (E.has i a h1).2 h2 h3
  len := E.len
  pin := fun p hp => (E.pin p hp).ex f.msk
  fin := E.fin
  mine := E.mine
/-- what is told -/
def VOk (t : V) (B : Addr → Prop) (H : Hp) (v : V) (H' : Hp) : DV → Prop
  | .un => False
  | .tape => v = t ∧ ∃ a, t = .ref a
  | .raw _ => False
  | .d x => Rp (msk B H') v x
  | .own ds => ∃ a vs, v = .ref a ∧ (Fresh H a ∧ ¬ B a) ∧ H' a = some (.lst vs) ∧ RpA (msk (fun b => B b ∨ b = a) H') vs ds
  | .dic kvs => ∃ a ws, v = .ref a ∧ (Fresh H a ∧ ¬ B a) ∧ H' a = some (.dK ws) ∧ KRp (msk (fun b => B b ∨ b = a) H') ws kvs
/-- what is one's own is left as data -/
def DV.cold : DV → DV
  | .own ds => .d (.list ds)
  | x => x
theorem Fresh.fr {v : V} {r : DV} (f : FrV c A n m H H' v r) {a : Addr} (h : Fresh H' a) : Fresh H a := fun o e => by
  apply Classical.byContradiction
  intro no
  have t : ∀ ps, o ≠ HO.tbl ps := fun ps z => no ⟨ps, z⟩
  obtain ⟨_, o', h1, h2⟩ := f.1 a o t e
  obtain ⟨ps, z⟩ := h o' h1
  exact h2 ps z
theorem VOk.mono {w : V} {r : DV} (E : EnvA c A n σ H ρ) (f : FrV c A n m H H1 w r) {v : V} {x : DV} (h : VOk c.t (c.av k A) H1 v H' x) : VOk c.t (c.av k A) H v H' x := by
  cases x with
  | un => exact h
  | tape => exact h
  | raw v => exact h
  | d x => exact h
  | own ds =>
    obtain ⟨a, vs, h1, h2, h3, h4⟩ := h
    exact ⟨a, vs, h1, ⟨h2.1.fr f, h2.2⟩, h3, h4⟩
  | dic kvs =>
    obtain ⟨a, vs, h1, h2, h3, h4⟩ := h
    exact ⟨a, vs, h1, ⟨h2.1.fr f, h2.2⟩, h3, h4⟩
/-- later it stands as it stood -/
theorem VOk.later (E : EnvA c A n σ H ρ) {m' : Fam.S} {v : V} {x : DV} {w w' : V} {r r' : DV} (h : VOk c.t (c.av m A) H v H1 x) (f : FrV c A n m H H1 w r) (f' : FrV c A m m' H1 H' w' r') : VOk c.t (c.av m' A) H v H' x := by
  have ap : ∀ {a : Addr}, ¬ c.av m A a → ¬ c.P m a := fun fr p => fr (.inl (c.PB p))
  have av' : ∀ {a : Addr} {o : HO}, ¬ c.av m A a → H1 a = some o → (∀ ps, o ≠ HO.tbl ps) → ¬ c.av m' A a := fun {a o} h1 h2 h3 z => by
    rcases z with (z | z) | z
    · exact h1 (.inl (.inl z))
    · exact f'.1.n (ap h1) h3 h2 z
    · exact h1 (.inr z)
  have xt : ∀ {a : Addr}, Xt (msk (fun b => c.av m A b ∨ b = a) H1) (msk (fun b => c.av m' A b ∨ b = a) H') := fun {a} b o q h => by
    obtain ⟨h1, h2⟩ := msk_some h
    rw [msk_out]
    · exact f'.k b o (ap fun z => h1 (.inl z)) q h2
    · rintro (z | z)
      · exact av' (fun z => h1 (.inl z)) h2 q z
      · exact h1 (.inr z)
  cases x with
  | un => exact h
  | tape => exact h
  | raw v => exact h
  | d x => exact Rp.ex h f'.msk
  | own ds =>
    obtain ⟨a, vs, h1, h2, h3, h4⟩ := h
    exact ⟨a, vs, h1, ⟨h2.1, av' h2.2 h3 (fun ps z => by cases z)⟩, f'.k a _ (ap h2.2) (fun ps z => by cases z) h3, h4.ex xt⟩
  | dic kvs =>
    obtain ⟨a, vs, h1, h2, h3, h4⟩ := h
    exact ⟨a, vs, h1, ⟨h2.1, av' h2.2 h3 (fun ps z => by cases z)⟩, f'.k a _ (ap h2.2) (fun ps z => by cases z) h3, h4.ex xt⟩
theorem VOk.cold {B : Addr → Prop} {v : V} {x : DV} {t : V} (h : VOk t B H v H' x) : VOk t B H v H' x.cold := by
  cases x with
  | own ds =>
    obtain ⟨a, vs, rfl, h2, h3, h4⟩ := h
    refine .lst (by rw [msk_out h2.2]; exact h3) (h4.ex fun b o _ e => ?_)
    obtain ⟨h5, h6⟩ := msk_some e
    rw [msk_out fun z => h5 (.inl z)]
    exact h6
  | un => exact h
  | tape => exact h
  | raw v => exact h
  | d x => exact h
  | dic kvs => exact h
end
end

/-! ### data readings: expressions -/
section
variable [Fam] [Tabz]
abbrev DQ := DV → Fam.S → Prop
abbrev DF := List DV → Fam.S → DQ → Prop
abbrev DT := List DV → Fam.S → (Bool → Fam.S → Prop) → Prop
abbrev DA := List DV → Fam.S → (List DV → Fam.S → Prop) → Prop
def tD (f : DF) : TE := fun σ H Q => ∃ (c : EC) (A : Nat → Option Addr) (n : Fam.S) (ρ : List DV) (Q' : DQ), EnvA c A n σ H ρ ∧ f ρ n Q' ∧ ∀ v r n' H', Q' r n' → FrV c A n n' H H' v r → VOk c.t (c.av n' A) H v H' r → Q v H'
def tDT (f : DT) : TT := fun σ H Q => ∃ (c : EC) (A : Nat → Option Addr) (n : Fam.S) (ρ : List DV) (Q' : Bool → Fam.S → Prop), EnvA c A n σ H ρ ∧ f ρ n Q' ∧ ∀ b n' H', Q' b n' → Fr c A n n' H H' → Q b H'
/-- arguments: what is one's own is told as data -/
inductive VsOk (t : V) (B : Addr → Prop) (H : Hp) (H' : Hp) : List V → List DV → Prop
  | nil : VsOk t B H H' [] []
  | cons {v : V} {r : DV} {vs : List V} {rs : List DV} : VOk t B H v H' r → r.cold = r → VsOk t B H H' vs rs → VsOk t B H H' (v :: vs) (r :: rs)
def tDA (f : DA) : TA := fun σ H Q => ∃ (c : EC) (A : Nat → Option Addr) (n : Fam.S) (ρ : List DV) (Q' : List DV → Fam.S → Prop), EnvA c A n σ H ρ ∧ f ρ n Q' ∧ ∀ vs rs n' H', Q' rs n' → Fr c A n n' H H' → VsOk c.t (c.av n' A) H H' vs rs → Q vs H'
theorem _root_.L2.PE.imp {X : Cx} {e : Expr} {t t' : TE} (h : PE X e t) (i : ∀ σ H Q, t' σ H Q → t σ H Q) : PE X e t' := ⟨fun pins s σ H Q I q => h.run pins s σ H Q I (i σ H Q q)⟩
theorem _root_.L2.PT.imp {X : Cx} {e : Expr} {t t' : TT} (h : PT X e t) (i : ∀ σ H Q, t' σ H Q → t σ H Q) : PT X e t' := ⟨fun pins s σ H Q I q => h.run pins s σ H Q I (i σ H Q q)⟩
theorem _root_.L2.PW.imp {X : Cx} {e : Expr} {t t' : TT} (h : PW X e t) (i : ∀ σ H Q, t' σ H Q → t σ H Q) : PW X e t' := ⟨fun whole pins s σ H Q I q => h.run whole pins s σ H Q I (i σ H Q q)⟩
theorem _root_.L2.PA.imp {X : Cx} {es : List Expr} {t t' : TA} (h : PA X es t) (i : ∀ σ H Q, t' σ H Q → t σ H Q) : PA X es t' := ⟨fun pos pins s σ H Q I q => h.run pos pins s σ H Q I (i σ H Q q)⟩
theorem _root_.L2.PSs.imp {X : Cx} {st : List Stmt} {t t' : TS} (h : PSs X st t) (i : ∀ D σ H, t' D σ H → t D σ H) : PSs X st t' := ⟨fun pins s σ H D I q => h.run pins s σ H D I (i D σ H q)⟩
theorem _root_.L2.PS.imp {X : Cx} {st : Stmt} {t t' : TS} (h : PS X st t) (i : ∀ D σ H, t' D σ H → t D σ H) : PS X st t' := ⟨fun pins s σ H D I q => h.run pins s σ H D I (i D σ H q)⟩

/-- a name -/
def dV (i : Nat) : DF := fun ρ n Q => (∃ d, ρ[i]? = some (.d d) ∧ Q (.d d) n) ∨ (ρ[i]? = some .tape ∧ Q .tape n)
theorem pdV {X : Cx} {i : Nat} {e : Expr} (h : PE X e (tVar i)) : PE X e (tD (dV i)) := h.imp fun σ H Q ⟨c, A, n, ρ, Q', E, hf, k⟩ => by
  rcases hf with ⟨d, h1, h2⟩ | ⟨h1, h2⟩
  · obtain ⟨v, h3, h4⟩ := E.slot i _ h1
    exact ⟨v, h3, k v _ n H h2 (.refl E.g) h4⟩
  · exact ⟨c.t, (E.slot i _ h1).1, k c.t _ n H h2 (.refl E.g) ⟨rfl, (E.slot i _ h1).2⟩⟩
def dC (d : PyData) : DF := fun _ n Q => Q (.d d) n
def datC : V → Option PyData
  | .non => some .none
  | .bl b => some (.bool b)
  | .int i => some (.int i)
  | .str x => some (.str x)
  | _ => none
theorem datC_rp {v : V} {d : PyData} {M : Hp} (h : datC v = some d) : Rp M v d := by
  cases v <;> simp [datC] at h <;> subst h <;> constructor
theorem pdC {X : Cx} {v : V} {d : PyData} {e : Expr} (h : PE X e (tC v)) (hd : datC v = some d := by rfl) : PE X e (tD (dC d)) := h.imp fun σ H Q ⟨c, A, n, ρ, Q', E, hf, k⟩ => k v _ n H hf (.refl E.g) (datC_rp hd)
/-- what is told, as data -/
def DV.dat : DV → Option PyData
  | .d x => some x
  | .own ds => some (.list ds)
  | _ => none
theorem VOk.dat {c : EC} {A : Nat → Option Addr} {n k : Fam.S} {σ : L2.St} {H H0 H' : Hp} {ρ : List DV} (_E : EnvA c A n σ H0 ρ) {v : V} {x : DV} {d : PyData} (h : VOk c.t (c.av k A) H v H' x) (e : x.dat = some d) : Rp (msk (c.av k A) H') v d := by
  have q := h.cold
  cases x with
  | d y =>
    cases e
    exact q
  | own ds =>
    cases e
    exact q
  | _ => cases e
/-- operators by values -/
def R2D (r : R2) (op : PyData → PyData → Option DV) : Prop := ∀ (t : V) (B : Addr → Prop) (H : Hp) (v w : V) (a b : PyData) (z : DV) (Q : VK), (∀ b, B b → ∃ o, H b = some o) → Rp (msk B H) v a → Rp (msk B H) w b → op a b = some z →
  (∀ u H', (∀ p o, H p = some o → H' p = some o) → VOk t B H u H' z → Q u H') → r v w H Q
def R1D (r : V → Hp → VK → Prop) (op : PyData → Option DV) : Prop := ∀ (t : V) (B : Addr → Prop) (H : Hp) (v : V) (a : PyData) (z : DV) (Q : VK), (∀ b, B b → ∃ o, H b = some o) → Rp (msk B H) v a → op a = some z →
  (∀ u H', (∀ p o, H p = some o → H' p = some o) → VOk t B H u H' z → Q u H') → r v H Q
theorem FrV.same {c : EC} {A : Nat → Option Addr} {n : Fam.S} {H H' : Hp} (g : c.G n (_root_.Rh.msk (c.av n A) H) H) (s : ∀ p o, H p = some o → H' p = some o) {u : V} {z : DV} (o : VOk c.t (c.av n A) H u H' z) : FrV c A n n H H' u z := ⟨.same s, c.Gm n _ _ H H' g (fun b o' q e => by
  obtain ⟨h1, h2⟩ := msk_some e
  rw [msk_out]
  · exact s b o' h2
  · intro w
    cases z with
    | own ds =>
      obtain ⟨a, vs, rfl, h3, _⟩ := o
      rcases w with w | w
      · exact h1 w
      · cases w
        obtain ⟨ps, e2⟩ := h3.1 _ h2
        exact q ps e2
    | dic ds =>
      obtain ⟨a, vs, rfl, h3, _⟩ := o
      rcases w with w | w
      · exact h1 w
      · cases w
        obtain ⟨ps, e2⟩ := h3.1 _ h2
        exact q ps e2
    | _ => exact h1 w) (fun b o _ _ _ h => s b o h) fun b o _ h => s b o h⟩
theorem Fr.same {c : EC} {A : Nat → Option Addr} {n : Fam.S} {H H' : Hp} (g : c.G n (_root_.Rh.msk (c.av n A) H) H) (s : ∀ p o, H p = some o → H' p = some o) : Fr c A n n H H' := ⟨.same s, c.Gm n _ _ H H' g (fun b o _ e => by
  obtain ⟨h1, h2⟩ := msk_some e
  show _root_.Rh.msk (c.av n A) H' b = some o
  rw [msk_out h1]
  exact s b o h2) (fun b o _ _ _ h => s b o h) fun b o _ h => s b o h⟩
def dBin (op : PyData → PyData → Option DV) (f g : DF) : DF := fun ρ n Q => f ρ n fun x n1 => g ρ n1 fun y n2 => ∃ a, x.dat = some a ∧ ∃ b, y.dat = some b ∧ ∃ z, op a b = some z ∧ Q z n2
def dUn (op : PyData → Option DV) (f : DF) : DF := fun ρ n Q => f ρ n fun x n1 => ∃ a, x.dat = some a ∧ ∃ z, op a = some z ∧ Q z n1
theorem bin_le {r : R2} {op : PyData → PyData → Option DV} {f g : DF} (h : R2D r op) (σ : L2.St) (H : Hp) (Q : VK) (q : tD (dBin op f g) σ H Q) : tOp r (tD f) (tD g) σ H Q := by
  obtain ⟨c, A, n, ρ, Q', E, hf, k⟩ := q
  refine ⟨c, A, n, ρ, _, E, hf, fun v x n1 H1 hg f1 o1 => ⟨c, A, n1, ρ, _, E.fr f1, hg, fun w y n2 H2 hz f2 o2 => ?_⟩⟩
  obtain ⟨a, ea, b, eb, z, ez, hq⟩ := hz
  have E2 := (E.fr f1).fr f2
  refine h c.t (c.av n2 A) H2 v w a b z Q (fun b hb => (E2.there hb).imp fun o h => h.1) ((o1.later E f1 f2).dat E ea) (o2.dat (E.fr f1) eb) ez fun u H' s o => ?_
  have f3 := FrV.same (H' := H') E2.g s o
  exact k u z n2 H' hq ((f1.trans f2).trans f3) (VOk.mono E (f1.trans f2) o)
theorem un_le {r : V → Hp → VK → Prop} {op : PyData → Option DV} {f : DF} (h : R1D r op) (σ : L2.St) (H : Hp) (Q : VK) (q : tD (dUn op f) σ H Q) : tUn r (tD f) σ H Q := by
  obtain ⟨c, A, n, ρ, Q', E, hf, k⟩ := q
  refine ⟨c, A, n, ρ, _, E, hf, fun v x n1 H1 hz f1 o1 => ?_⟩
  obtain ⟨a, ea, z, ez, hq⟩ := hz
  have E1 := E.fr f1
  refine h c.t (c.av n1 A) H1 v a z Q (fun b hb => (E1.there hb).imp fun o h => h.1) (o1.dat E ea) ez fun u H' s o => ?_
  exact k u z n1 H' hq (f1.trans (FrV.same E1.g s o)) (VOk.mono E f1 o)
theorem pdOp {X : Cx} {o : Operator} {r : R2} {op : PyData → PyData → Option DV} {a b : Expr} {f g : DF} {pos : Pos} (hd : R2D r op) (ho : OpR X (binaryOp o) r) (ha : PE X a (tD f)) (hb : PE X b (tD g)) : PE X (.BinOp a o b pos) (tD (dBin op f g)) := (pe_op ho ha hb).imp (bin_le hd)
theorem pdCmp {X : Cx} {o : CmpOp} {r : R2} {op : PyData → PyData → Option DV} {a b : Expr} {f g : DF} {pos : Pos} (hd : R2D r op) (ho : OpR X (compareOp o) r) (ha : PE X a (tD f)) (hb : PE X b (tD g)) (hm : behindInMarks o b = false) : PE X (.Compare a [o] [b] pos) (tD (dBin op f g)) := (pe_cmpR ho ha hb hm).imp (bin_le hd)
theorem pdIx {X : Cx} {r : R2} {op : PyData → PyData → Option DV} {a b : Expr} {f g : DF} {pos : Pos} (hd : R2D r op) (hr : IxR X r) (ha : PE X a (tD f)) (hb : PE X b (tD g)) (hs : PlainIx b) : PE X (.Subscript a b pos) (tD (dBin op f g)) := (pe_ix hr ha hb hs).imp (bin_le hd)
theorem pdUn {X : Cx} {o : UnaryOp} {r : V → Hp → VK → Prop} {op : PyData → Option DV} {a : Expr} {f : DF} {pos : Pos} (hd : R1D r op) (ho : UnR X (unaryOp o) r) (ha : PE X a (tD f)) : PE X (.UnaryOp o a pos) (tD (dUn op f)) := (pe_un ho ha).imp (un_le hd)
/-- tests -/
def dTest (f : DF) : DT := fun ρ n Q => f ρ n fun x n1 => ∃ b, x = .d (.bool b) ∧ Q b n1
theorem test_le {te : TE} {f : DF} (h : ∀ σ H Q, tD f σ H Q → te σ H Q) (σ : L2.St) (H : Hp) (Q : Bool → Hp → Prop) (q : tDT (dTest f) σ H Q) : te σ H fun x H1 => ∃ b, x = .bl b ∧ Q b H1 := by
  obtain ⟨c, A, n, ρ, Q', E, hf, k⟩ := q
  refine h σ H _ ⟨c, A, n, ρ, _, E, hf, fun v r n' H' ⟨b, e, hq⟩ f1 o1 => ?_⟩
  subst e
  cases o1
  exact ⟨b, rfl, k b n' H' hq f1⟩
theorem ptCmp {X : Cx} {o : CmpOp} {r : R2} {op : PyData → PyData → Option DV} {a b : Expr} {f g : DF} {pos : Pos} (hd : R2D r op) (ho : OpR X (compareOp o) r) (ha : PE X a (tD f)) (hb : PE X b (tD g)) (hm : behindInMarks o b = false) : PT X (.Compare a [o] [b] pos) (tDT (dTest (dBin op f g))) :=
  (pt_cmpR ho ha hb hm).imp fun σ H Q q => test_le (bin_le hd) σ H Q q
theorem ptVal {X : Cx} {e : Expr} {f : DF} (h : PE X e (tD f)) (he : ∀ whole, isTrue e X.env whole = (do let v ← whole; standAt e.pos; holding [v] (truthy v)) := by intro _; rfl) : PT X e (tDT (dTest f)) := (pt_val h he).imp fun σ H Q q => test_le (fun _ _ _ z => z) σ H Q q
def dNot (t : DT) : DT := fun ρ n Q => t ρ n fun b n1 => Q (!b) n1
def dAnd (t u : DT) : DT := fun ρ n Q => t ρ n fun b n1 => if b = true then u ρ n1 Q else Q false n1
def dOr (t u : DT) : DT := fun ρ n Q => t ρ n fun b n1 => if b = true then Q true n1 else u ρ n1 Q
theorem not_le {t : DT} (σ : L2.St) (H : Hp) (Q : Bool → Hp → Prop) (q : tDT (dNot t) σ H Q) : tNot (tDT t) σ H Q := by
  obtain ⟨c, A, n, ρ, Q', E, hf, k⟩ := q
  exact ⟨c, A, n, ρ, _, E, hf, fun b n' H' hq f1 => k _ n' H' hq f1⟩
theorem and_le {t u : DT} (σ : L2.St) (H : Hp) (Q : Bool → Hp → Prop) (q : tDT (dAnd t u) σ H Q) : tAnd (tDT t) (tDT u) σ H Q := by
  obtain ⟨c, A, n, ρ, Q', E, hf, k⟩ := q
  refine ⟨c, A, n, ρ, _, E, hf, fun b n' H' hq f1 => ?_⟩
  cases b with
  | true => exact ⟨c, A, n', ρ, Q', E.fr f1, hq, fun b2 n2 H2 h2 f2 => k b2 n2 H2 h2 (f1.trans f2)⟩
  | false => exact k false n' H' hq f1
theorem or_le {t u : DT} (σ : L2.St) (H : Hp) (Q : Bool → Hp → Prop) (q : tDT (dOr t u) σ H Q) : tOr (tDT t) (tDT u) σ H Q := by
  obtain ⟨c, A, n, ρ, Q', E, hf, k⟩ := q
  refine ⟨c, A, n, ρ, _, E, hf, fun b n' H' hq f1 => ?_⟩
  cases b with
  | false => exact ⟨c, A, n', ρ, Q', E.fr f1, hq, fun b2 n2 H2 h2 f2 => k b2 n2 H2 h2 (f1.trans f2)⟩
  | true => exact k true n' H' hq f1
theorem ptNot {X : Cx} {a : Expr} {t : DT} {pos : Pos} (h : PT X a (tDT t)) : PT X (.UnaryOp .Not a pos) (tDT (dNot t)) := (pt_not h).imp not_le
theorem pwAnd1 {X : Cx} {a : Expr} {t : DT} {pos : Pos} (h : PT X a (tDT t)) : PW X (.BoolOp .And [a] pos) (tDT t) := pw_and1 h
theorem pwOr1 {X : Cx} {a : Expr} {t : DT} {pos : Pos} (h : PT X a (tDT t)) : PW X (.BoolOp .Or [a] pos) (tDT t) := pw_or1 h
theorem pwAnd {X : Cx} {a b : Expr} {rest : List Expr} {t u : DT} {pos : Pos} (h : PT X a (tDT t)) (h2 : PW X (.BoolOp .And (b :: rest) pos) (tDT u)) : PW X (.BoolOp .And (a :: b :: rest) pos) (tDT (dAnd t u)) := (pw_and h h2).imp and_le
theorem pwOr {X : Cx} {a b : Expr} {rest : List Expr} {t u : DT} {pos : Pos} (h : PT X a (tDT t)) (h2 : PW X (.BoolOp .Or (b :: rest) pos) (tDT u)) : PW X (.BoolOp .Or (a :: b :: rest) pos) (tDT (dOr t u)) := (pw_or h h2).imp or_le
def dIf (t : DT) (f g : DF) : DF := fun ρ n Q => t ρ n fun b n1 => if b = true then f ρ n1 Q else g ρ n1 Q
theorem pdIf {X : Cx} {c a b : Expr} {t : DT} {f g : DF} {pos : Pos} (hc : PT X c (tDT t)) (ha : PE X a (tD f)) (hb : PE X b (tD g)) : PE X (.IfExp c a b pos) (tD (dIf t f g)) := (pe_ifExp hc ha hb).imp fun σ H Q ⟨c, A, n, ρ, Q', E, hf, k⟩ => by
  refine ⟨c, A, n, ρ, _, E, hf, fun b n' H' hq f1 => ?_⟩
  cases b with
  | true => exact ⟨c, A, n', ρ, Q', E.fr f1, hq, fun v r n2 H2 h2 f2 o2 => k v r n2 H2 h2 (f1.trans f2) (VOk.mono E f1 o2)⟩
  | false => exact ⟨c, A, n', ρ, Q', E.fr f1, hq, fun v r n2 H2 h2 f2 o2 => k v r n2 H2 h2 (f1.trans f2) (VOk.mono E f1 o2)⟩
/-- truth values joined, not -/
def dAndV (f g : DF) : DF := fun ρ n Q => f ρ n fun x n1 => ∃ b, x = .d (.bool b) ∧ if b = true then g ρ n1 Q else Q (.d (.bool false)) n1
def dOrV (f g : DF) : DF := fun ρ n Q => f ρ n fun x n1 => ∃ b, x = .d (.bool b) ∧ if b = true then Q (.d (.bool true)) n1 else g ρ n1 Q
def dNotV (f : DF) : DF := fun ρ n Q => f ρ n fun x n1 => ∃ b, x = .d (.bool b) ∧ Q (.d (.bool (!b))) n1
theorem pdAnd {X : Cx} {a b : Expr} {rest : List Expr} {f g : DF} {pos : Pos} (ha : PE X a (tD f)) (hb : PE X (.BoolOp .And (b :: rest) pos) (tD g)) : PE X (.BoolOp .And (a :: b :: rest) pos) (tD (dAndV f g)) := (pe_and ha hb).imp fun σ H Q ⟨c, A, n, ρ, Q', E, hf, k⟩ => by
  refine ⟨c, A, n, ρ, _, E, hf, fun v r n' H' ⟨b, e, hq⟩ f1 o1 => ?_⟩
  subst e
  cases o1
  refine ⟨b, rfl, ?_⟩
  cases b with
  | true => exact ⟨c, A, n', ρ, Q', E.fr f1, hq, fun v r n2 H2 h2 f2 o2 => k v r n2 H2 h2 (f1.trans f2) (VOk.mono E f1 o2)⟩
  | false => exact k _ _ n' H' hq f1 (Rp.bl false)
theorem pdOr {X : Cx} {a b : Expr} {rest : List Expr} {f g : DF} {pos : Pos} (ha : PE X a (tD f)) (hb : PE X (.BoolOp .Or (b :: rest) pos) (tD g)) : PE X (.BoolOp .Or (a :: b :: rest) pos) (tD (dOrV f g)) := (pe_or ha hb).imp fun σ H Q ⟨c, A, n, ρ, Q', E, hf, k⟩ => by
  refine ⟨c, A, n, ρ, _, E, hf, fun v r n' H' ⟨b, e, hq⟩ f1 o1 => ?_⟩
  subst e
  cases o1
  refine ⟨b, rfl, ?_⟩
  cases b with
  | false => exact ⟨c, A, n', ρ, Q', E.fr f1, hq, fun v r n2 H2 h2 f2 o2 => k v r n2 H2 h2 (f1.trans f2) (VOk.mono E f1 o2)⟩
  | true => exact k _ _ n' H' hq f1 (Rp.bl true)
theorem pdNot {X : Cx} {a : Expr} {f : DF} {pos : Pos} (ha : PE X a (tD f)) : PE X (.UnaryOp .Not a pos) (tD (dNotV f)) := (pe_not ha).imp fun σ H Q ⟨c, A, n, ρ, Q', E, hf, k⟩ => by
  refine ⟨c, A, n, ρ, _, E, hf, fun v r n' H' ⟨b, e, hq⟩ f1 o1 => ?_⟩
  subst e
  cases o1
  exact ⟨b, rfl, k _ _ n' H' hq f1 (Rp.bl _)⟩
/-- arguments -/
def dNil : DA := fun _ n Q => Q [] n
def dCons (f : DF) (g : DA) : DA := fun ρ n Q => f ρ n fun x n1 => g ρ n1 fun xs n2 => Q (x.cold :: xs) n2
theorem VsOk.mono {c : EC} {A : Nat → Option Addr} {n m k : Fam.S} {σ : L2.St} {H H1 H' : Hp} {ρ : List DV} {w : V} {r : DV} (E : EnvA c A n σ H ρ) (f : FrV c A n m H H1 w r) : ∀ {vs : List V} {rs : List DV}, VsOk c.t (c.av k A) H1 H' vs rs → VsOk c.t (c.av k A) H H' vs rs
  | _, _, .nil => .nil
  | _, _, .cons h e t => .cons (h.mono E f) e (VsOk.mono E f t)
theorem cold_cold (r : DV) : r.cold.cold = r.cold := by cases r <;> rfl
theorem paNil {X : Cx} : PA X [] (tDA dNil) := pa_nil.imp fun σ H Q ⟨c, A, n, ρ, Q', E, hf, k⟩ => k [] [] n H hf (.refl E.g) .nil
theorem paCons {X : Cx} {e : Expr} {es : List Expr} {f : DF} {g : DA} (ha : PE X e (tD f)) (hr : PA X es (tDA g)) (hs : starEach (e :: es) X.env = (false, eval e X.env) :: starEach es X.env := by rfl) : PA X (e :: es) (tDA (dCons f g)) := (pa_cons ha hr hs).imp fun σ H Q ⟨c, A, n, ρ, Q', E, hf, k⟩ => by
  refine ⟨c, A, n, ρ, _, E, hf, fun v x n1 H1 hg f1 o1 => ⟨c, A, n1, ρ, _, E.fr f1, hg, fun vs rs n2 H2 hq f2 o2 => ?_⟩⟩
  exact k (v :: vs) _ n2 H2 hq (f1.trans f2) (.cons (o1.later E f1 f2).cold (cold_cold _) (o2.mono E f1))
/-- all of them data -/
def datsOf : List DV → Option (List PyData)
  | [] => some []
  | x :: xs => match x.dat, datsOf xs with
    | some d, some ds => some (d :: ds)
    | _, _ => none
theorem VsOk.dats {c : EC} {A : Nat → Option Addr} {n k : Fam.S} {σ : L2.St} {H H0 H' : Hp} {ρ : List DV} (E : EnvA c A n σ H0 ρ) : ∀ {vs : List V} {rs : List DV} {ds : List PyData}, VsOk c.t (c.av k A) H H' vs rs → datsOf rs = some ds → RpA (msk (c.av k A) H') vs ds
  | _, _, _, .nil, e => by
    cases e
    exact .nil
  | _, _, ds, .cons (r := r) (rs := rs) h _ t, e => by
    unfold datsOf at e
    split at e
    · cases e
      exact .cons (h.dat E (by assumption)) (VsOk.dats E t (by assumption))
    · cases e
/-- displays -/
def dLst (g : DA) : DF := fun ρ n Q => g ρ n fun rs n1 => ∃ ds, datsOf rs = some ds ∧ ds.length ≤ 100000 ∧ Q (.own ds) n1
def dTup (g : DA) : DF := fun ρ n Q => g ρ n fun rs n1 => ∃ ds, datsOf rs = some ds ∧ ds.length ≤ 100000 ∧ Q (.d (.tuple ds)) n1
theorem big_line {n : Nat} (h : n ≤ 100000) : n ≤ sizeLine := Nat.le_trans h (by decide)
theorem big_lt {n : Nat} (h : n < 100000) : n < sizeLine := Nat.lt_of_lt_of_le h (by decide)
theorem own_new {c : EC} {A : Nat → Option Addr} {n : Fam.S} {σ : L2.St} {H : Hp} {ρ : List DV} (E : EnvA c A n σ H ρ) {p : Addr} {vs : List V} {ds : List PyData} (hp : H p = none) (h : RpA (msk (c.av n A) H) vs ds) : VOk c.t (c.av n A) H (.ref p) (upd H p (.lst vs)) (.own ds) := by
  refine ⟨p, vs, rfl, ⟨.of hp, E.apart (.of hp)⟩, upd_same, h.ex fun b o _ e => ?_⟩
  obtain ⟨h1, h2⟩ := msk_some e
  have ne : b ≠ p := ne_of_none h2 hp
  rw [msk_out (fun z => z.elim h1 ne), upd_ne ne]
  exact h2
theorem tup_new {c : EC} {A : Nat → Option Addr} {n : Fam.S} {σ : L2.St} {H : Hp} {ρ : List DV} (E : EnvA c A n σ H ρ) {p : Addr} {vs : List V} {ds : List PyData} (hp : H p = none) (h : RpA (msk (c.av n A) H) vs ds) : VOk c.t (c.av n A) H (.ref p) (upd H p (.tup vs)) (.d (.tuple ds)) := by
  refine .tup (by rw [msk_out (E.apart (.of hp))]; exact upd_same) (h.ex fun b o _ e => ?_)
  obtain ⟨h1, h2⟩ := msk_some e
  have ne : b ≠ p := ne_of_none h2 hp
  rw [msk_out h1, upd_ne ne]
  exact h2
theorem pdLst {X : Cx} {es : List Expr} {g : DA} {pos : Pos} (h : PA X es (tDA g)) : PE X (.List es pos) (tD (dLst g)) := (pe_lst h).imp fun σ H Q ⟨c, A, n, ρ, Q', E, hf, k⟩ => by
  refine ⟨c, A, n, ρ, _, E, hf, fun vs rs n1 H1 ⟨ds, e1, e2, hq⟩ f1 o1 => ?_⟩
  have r := o1.dats E e1
  refine ⟨big_line (by rw [r.length]; exact e2), fun p hp => ?_⟩
  have E1 := E.fr f1
  exact k _ _ n1 _ hq (f1.trans (FrV.same E1.g (fun b u h => by rw [upd_ne (ne_of_none h hp)]; exact h) (own_new E1 hp r))) (VOk.mono E f1 (own_new E1 hp r))
theorem pdTup {X : Cx} {es : List Expr} {g : DA} {pos : Pos} {x1} (h : PA X es (tDA g)) : PE X (.Tuple es x1 pos) (tD (dTup g)) := (pe_tup h).imp fun σ H Q ⟨c, A, n, ρ, Q', E, hf, k⟩ => by
  refine ⟨c, A, n, ρ, _, E, hf, fun vs rs n1 H1 ⟨ds, e1, e2, hq⟩ f1 o1 => ?_⟩
  have r := o1.dats E e1
  refine ⟨big_line (by rw [r.length]; exact e2), fun p hp => ?_⟩
  have E1 := E.fr f1
  exact k _ _ n1 _ hq (f1.trans (Fr.new E1.g hp)) (VOk.mono E f1 (tup_new E1 hp r))
/-- calls of what is known by values, all data -/
def RsD (r : List V → Hp → VK → Prop) (op : List PyData → Option DV) : Prop := ∀ (t : V) (B : Addr → Prop) (H : Hp) (vs : List V) (as : List PyData) (z : DV) (Q : VK), (∀ b, B b → ∃ o, H b = some o) → RpA (msk B H) vs as → op as = some z →
  (∀ u H', (∀ p o, H p = some o → H' p = some o) → VOk t B H u H' z → Q u H') → r vs H Q
def dB (op : List PyData → Option DV) (g : DA) : DF := fun ρ n Q => g ρ n fun rs n1 => ∃ ds, datsOf rs = some ds ∧ ∃ z, op ds = some z ∧ Q z n1
theorem cb_le {r : List V → Hp → VK → Prop} {op : List PyData → Option DV} {g : DA} (h : RsD r op) (σ : L2.St) (H : Hp) (Q : VK) (q : tD (dB op g) σ H Q) : tCB r (tDA g) σ H Q := by
  obtain ⟨c, A, n, ρ, Q', E, hf, k⟩ := q
  refine ⟨c, A, n, ρ, _, E, hf, fun vs rs n1 H1 ⟨ds, e1, z, ez, hq⟩ f1 o1 => ?_⟩
  have E1 := E.fr f1
  refine h c.t (c.av n1 A) H1 vs ds z Q (fun b hb => (E1.there hb).imp fun o h => h.1) (o1.dats E e1) ez fun u H' s o => ?_
  exact k u z n1 H' hq (f1.trans (FrV.same E1.g s o)) (VOk.mono E f1 o)
theorem pdB {X : Cx} {id : String} {x : Str} {p pos : Pos} {e : Expr} {es : List Expr} {r : List V → Hp → VK → Prop} {op : List PyData → Option DV} {g : DA} (hd : RsD r op) (hc : CallR X (.builtin id) r) (hg : Gl X x) (hm : X.mg x = none) (hv : bootBuiltins x = some (.builtin id)) (ha : PA X (e :: es) (tDA g)) (hn : x ≠ "__name__" := by decide) (hdb : (x == ("__debug__" : Str)) = false := by decide)
    (he : starEach (e :: es) X.env = (false, eval e X.env) :: starEach es X.env := by rfl) (hpl : (backTo pos (starEach es X.env)).any (·.1) = false := by rfl) : PE X (.Call (.Name x p) (e :: es) [] pos) (tD (dB op g)) := (pe_callB hc hg hm hv ha hn hdb he hpl).imp (cb_le hd)
theorem pdTy {X : Cx} {T : String} {x : Str} {p pos : Pos} {e : Expr} {es : List Expr} {r : List V → Hp → VK → Prop} {op : List PyData → Option DV} {g : DA} (hd : RsD r op) (hc : CallR X (.type T) r) (hg : Gl X x) (hm : X.mg x = none) (hv : bootBuiltins x = some (.type T)) (ha : PA X (e :: es) (tDA g)) (hn : x ≠ "__name__" := by decide) (hdb : (x == ("__debug__" : Str)) = false := by decide)
    (he : starEach (e :: es) X.env = (false, eval e X.env) :: starEach es X.env := by rfl) (hpl : (backTo pos (starEach es X.env)).any (·.1) = false := by rfl) : PE X (.Call (.Name x p) (e :: es) [] pos) (tD (dB op g)) := (pe_callTy hc hg hm hv ha hn hdb he hpl).imp (cb_le hd)
/-- calls of defs -/
abbrev DM := List DV → Fam.S → DQ → Prop
def spD (m : DM) : Sp := fun vs H Q _ => ∃ (c : EC) (n : Fam.S) (rs : List DV) (Q' : DQ), c.H0 = H ∧ c.n0 = n ∧ c.G n (msk (c.B n) H) H ∧ c.pins = [] ∧ VsOk c.t (c.B n) H H vs rs ∧ m rs n Q' ∧ ∀ v r n' H', Q' r n' → FrV c A0 n n' H H' v r → VOk c.t (c.B n') H v H' r → Q v H'
def dCall (m : DM) (g : DA) : DF := fun ρ n Q => g ρ n fun rs n1 => m rs n1 Q
/-- the caller's place as the callee's -/
def EnvA.ec {c : EC} {A : Nat → Option Addr} {n : Fam.S} {σ : L2.St} {H : Hp} {ρ : List DV} (E : EnvA c A n σ H ρ) : EC :=
  { H0 := H, n0 := n, B0 := fun b => c.B0 b ∨ ∃ i, A i = some b, t := c.t, u := c.u, pins := [], Bs := fun a h => h.elim (fun h => by
      obtain ⟨o, h1, h2⟩ := E.nB h
      exact ⟨⟨o, h1⟩, h2⟩) fun ⟨i, h⟩ => E.has i a h }
theorem EC.B_A0 (c : EC) (n : Fam.S) : c.av n A0 = c.B n := by
  funext b
  exact propext ⟨fun z => z.elim id (fun ⟨i, e⟩ => by cases e), fun z => .inl z⟩
theorem EnvA.ec_B {c : EC} {A : Nat → Option Addr} {n : Fam.S} {σ : L2.St} {H : Hp} {ρ : List DV} (E : EnvA c A n σ H ρ) (k : Fam.S) : E.ec.B k = c.av k A := by
  funext b
  refine propext ⟨fun z => ?_, fun z => ?_⟩
  · rcases z with (z | z) | z
    · exact .inl (.inl z)
    · exact .inr z
    · exact .inl (.inr z)
  · rcases z with (z | z) | z
    · exact .inl (.inl z)
    · exact .inr z
    · exact .inl (.inr z)
theorem EnvA.ec_fr {c : EC} {A : Nat → Option Addr} {n : Fam.S} {σ : L2.St} {H : Hp} {ρ : List DV} (E : EnvA c A n σ H ρ) {n' : Fam.S} {H' : Hp} {v : V} {r : DV} (f : FrV E.ec A0 n n' H H' v r) : FrV c A n n' H H' v r := ⟨f.1, by
  have g := f.2
  rw [EC.B_A0, E.ec_B] at g
  exact g⟩
theorem VsOk.now {c : EC} {A : Nat → Option Addr} {n m k : Fam.S} {σ : L2.St} {H H1 : Hp} {ρ : List DV} (E : EnvA c A n σ H ρ) : ∀ {vs : List V} {rs : List DV}, VsOk c.t (c.av k A) H H1 vs rs → (∀ r ∈ rs, (∃ d, r = .d d) ∨ r = DV.tape) → VsOk c.t (c.av k A) H1 H1 vs rs
  | _, _, .nil, _ => .nil
  | _, _, .cons (r := r) h ec t, a => by
    refine .cons ?_ ec (VsOk.now (m := m) E t fun r hr => a r (List.mem_cons_of_mem _ hr))
    rcases a _ List.mem_cons_self with ⟨d, e⟩ | e <;> rw [e] at h ⊢ <;> exact h
def plainR (rs : List DV) : Prop := ∀ r ∈ rs, (∃ d, r = .d d) ∨ r = DV.tape
theorem call_le {m : DM} {g : DA} (hpl : ∀ rs n Q, m rs n Q → plainR rs) (E0 : XK) (σ : L2.St) (H : Hp) (Q : VK) (q : tD (dCall m g) σ H Q) : tCall (spD m) [] E0 (tDA g) σ H Q := by
  obtain ⟨c, A, n, ρ, Q', E, hf, k⟩ := q
  refine ⟨c, A, n, ρ, _, E, hf, fun vs rs n1 H1 hm f1 o1 => ?_⟩
  have E1 := E.fr f1
  show spD m (vs ++ []) H1 Q E0
  rw [List.append_nil]
  refine ⟨E1.ec, n1, rs, Q', rfl, rfl, by rw [E1.ec_B]; exact E1.g, rfl, by rw [E1.ec_B]; exact o1.now (m := n1) E (hpl _ _ _ hm), hm, fun v r n' H' hq f2 o2 => ?_⟩
  rw [E1.ec_B] at o2
  exact k v r n' H' hq (f1.trans (E1.ec_fr f2)) (VOk.mono E f1 o2)
theorem pdCall {X : Cx} {CX : CXT} {k : Nat} {f : Addr} {fd : FuncData} {ps : List Str} {m : DM} {x : Str} {p pos : Pos} {e : Expr} {es : List Expr} {g : DA} {E0 : XK} (hpl : ∀ rs n Q, m rs n Q → plainR rs) (F : FnOk X.prog X.w X.K X.mg X.base CX k f fd ps (spD m)) (hr : Room k X.A) (hg : Gl X x) (hm : X.mg x = some (.ref f)) (hk : PySem.W.keepIn X.K (.ref f) = true) (hb : Binds X.K fd ps []) (hx : Passes CX X E0)
    (ha : PA X (e :: es) (tDA g)) (hdb : (x == ("__debug__" : Str)) = false := by decide) (he : starEach (e :: es) X.env = (false, eval e X.env) :: starEach es X.env := by rfl) (hpl2 : (backTo pos (starEach es X.env)).any (·.1) = false := by rfl) :
    PE X (.Call (.Name x p) (e :: es) [] pos) (tD (dCall m g)) := (pe_call F hr hg hm hk hb .nil hx ha hdb he hpl2).imp (call_le hpl E0)
end

/-! ### data readings: statements -/
section
variable [Fam] [Tabz]
section
variable {c : EC} {A : Nat → Option Addr} {n m : Fam.S} {σ : L2.St} {H H' H1 : Hp} {ρ : List DV}
theorem EnvA.put' (E : EnvA c A n σ H ρ) {w : V} {r0 : DV} (f : FrV c A n m H H' w r0) {i : Nat} {A' : Nat → Option Addr} (same : ∀ j, j ≠ i → A' j = A j) (mine : ∀ a, A' i = some a → (Fresh H a ∧ ¬ c.P m a ∧ ∃ o, H' a = some o ∧ ∀ ps, o ≠ HO.tbl ps)) {v : V} {r : DV}
    (hg : c.G m (msk (c.av m A') H') H') (h : SlOk c.t (msk (c.av m A') H') H' (A' i) (some (some v)) r) (hi : i < ρ.length) (ow : ∀ a, A' i = some a → r.isOwn = true) : EnvA c A' m (σ.set i (some v)) H' (ρ.set i r) := by
  have xt : Xt (msk (c.av n A) H) (msk (c.av m A') H') := fun b o q e => by
    obtain ⟨h1, h2⟩ := msk_some e
    have nb : ¬ c.B n b := fun z => h1 (.inl z)
    have np : ¬ c.P n b := fun z => nb (c.PB z)
    have na : ¬ c.av m A' b := by
      rintro ((z | z) | ⟨j, z⟩)
      · exact nb (.inl z)
      · exact f.1.n np q h2 z
      · by_cases e : j = i
        · subst e
          obtain ⟨ps, z2⟩ := (mine b z).1 o h2
          exact q ps z2
        · rw [same j e] at z
          exact h1 (.inr ⟨j, z⟩)
    rw [msk_out na]
    exact f.k b o np q h2
  refine ⟨E.keep.trans f.1, hg, fun j a e => ?_, fun j a e => ?_, fun j k a ej ek => ?_, fun j x e => ?_, by rw [List.length_set, List.length_set]; exact E.len, fun p hp => (E.pin p hp).ex xt, ?_, fun j a x e1 e2 => ?_⟩
  · by_cases z : j = i
    · subst z
      exact (mine a e).1.fr E.fr0
    · exact E.new j a (by rw [← same j z]; exact e)
  · by_cases z : j = i
    · subst z
      exact ⟨(mine a e).2.2, (mine a e).2.1⟩
    · exact (E.fr f).has j a (by rw [← same j z]; exact e)
  · have key : ∀ {j : Nat}, j ≠ i → A' j = some a → A' i = some a → False := fun {j} z e1 e2 => by
      rw [same j z] at e1
      obtain ⟨⟨o, h1, h2⟩, _⟩ := E.has j a e1
      obtain ⟨ps, h3⟩ := (mine a e2).1 o h1
      exact h2 ps h3
    by_cases z : j = i
    · subst z
      by_cases z2 : k = j
      · exact z2.symm
      · exact (key z2 ek ej).elim
    · by_cases z2 : k = i
      · subst z2
        exact (key z ej ek).elim
      · exact E.inj j k a (by rw [← same j z]; exact ej) (by rw [← same k z2]; exact ek)
  · by_cases z : j = i
    · subst z
      rw [List.getElem?_set_self hi] at e
      cases e
      rw [List.getElem?_set_self (by rw [← E.len]; exact hi)]
      exact h
    · rw [List.getElem?_set_ne (fun q => z q.symm)] at e ⊢
      rw [same j z]
      exact (E.slot j x e).ex xt fun a o h1 h2 h3 => f.k a o (E.has j a h1).2 h2 h3
  · obtain ⟨N, hN⟩ := E.fin
    refine ⟨max N (i + 1), fun k hk => ?_⟩
    rw [same k (by have := Nat.le_trans (Nat.le_max_right N (i + 1)) hk; omega)]
    exact hN k (Nat.le_trans (Nat.le_max_left _ _) hk)
  · by_cases z : j = i
    · subst z
      rw [List.getElem?_set_self hi] at e2
      cases e2
      exact ow a e1
    · rw [List.getElem?_set_ne (fun q => z q.symm)] at e2
      rw [same j z] at e1
      exact E.mine j a x e1 e2
theorem EnvA.put (E : EnvA c A n σ H ρ) {i : Nat} {v : V} {r : DV} (f : FrV c A n m H H' v r) (h : VOk c.t (c.av m A) H v H' r) (hi : i < ρ.length) : ∃ A', EnvA c A' m (σ.set i (some v)) H' (ρ.set i r) := by
  have drop : ∀ {b : Addr}, c.av m (fun j => if j = i then none else A j) b → c.av m A b := fun {b} z => by
    rcases z with z | ⟨j, z⟩
    · exact .inl z
    · have z' : (if j = i then none else A j) = some b := z
      split at z'
      · cases z'
      · exact .inr ⟨j, z'⟩
  have d1 : Xt (msk (c.av m A) H') (msk (c.av m (fun j => if j = i then none else A j)) H') := fun b o _ e => by
    obtain ⟨h1, h2⟩ := msk_some e
    rw [msk_out fun z => h1 (drop z)]
    exact h2
  have s1 : ∀ j, j ≠ i → (fun j => if j = i then none else A j) j = A j := fun j z => by show (if j = i then none else A j) = _; rw [if_neg z]
  have m1 : ∀ a, (fun j => if j = i then none else A j) i = some a → Fresh H a ∧ ¬ c.P m a ∧ ∃ o, H' a = some o ∧ ∀ ps, o ≠ HO.tbl ps := fun a z => by
    have z' : (if i = i then none else A i) = some a := z
    rw [if_pos rfl] at z'
    cases z'
  have s2 : ∀ p j, j ≠ i → (fun j => if j = i then some p else A j) j = A j := fun p j z => by show (if j = i then some p else A j) = _; rw [if_neg z]
  have d2 : ∀ p, Xt (msk (fun b => c.av m A b ∨ b = p) H') (msk (c.av m (fun j => if j = i then some p else A j)) H') := fun p b o _ e => by
    obtain ⟨h1, h2⟩ := msk_some e
    rw [msk_out]
    · exact h2
    · rintro (z | ⟨j, z⟩)
      · exact h1 (.inl (.inl z))
      · have z' : (if j = i then some p else A j) = some b := z
        split at z'
        · cases z'
          exact h1 (.inr rfl)
        · exact h1 (.inl (.inr ⟨j, z'⟩))
  have d3 : ∀ p, Xt (msk (fun b => c.av m A b ∨ V.ref p = .ref b) H') (msk (c.av m (fun j => if j = i then some p else A j)) H') := fun p b o q e => d2 p b o q (by
    obtain ⟨h1, h2⟩ := msk_some e
    rw [msk_out fun z => h1 (z.imp id fun z => by rw [z])]
    exact h2)
  have i2 : ∀ p : Addr, (fun j => if j = i then some p else A j) i = some p := fun p => by show (if i = i then some p else A i) = some p; rw [if_pos rfl]
  cases r with
  | un => exact h.elim
  | raw v => exact h.elim
  | tape =>
    exact ⟨_, E.put' f s1 m1 (c.Gx f.2 d1) ⟨congrArg (fun x => some (some x)) h.1, h.2⟩ hi (fun a z => by rw [if_pos rfl] at z; cases z)⟩
  | d x => exact ⟨_, E.put' f s1 m1 (c.Gx f.2 d1) ⟨v, rfl, Rp.ex h d1⟩ hi (fun a z => by rw [if_pos rfl] at z; cases z)⟩
  | own ds =>
    obtain ⟨a, vs, rfl, h2, h3, h4⟩ := h
    exact ⟨_, E.put' (A' := fun j => if j = i then some a else A j) f (s2 a) (fun b z => by rw [if_pos rfl] at z; cases z; exact ⟨h2.1, fun z => h2.2 (.inl (c.PB z)), _, h3, fun ps z => by cases z⟩) (c.Gx f.2 (d3 a)) ⟨a, vs, i2 a, rfl, h3, h4.ex (d2 a)⟩ hi (fun _ _ => rfl)⟩
  | dic kvs =>
    obtain ⟨a, vs, rfl, h2, h3, h4⟩ := h
    exact ⟨_, E.put' (A' := fun j => if j = i then some a else A j) f (s2 a) (fun b z => by rw [if_pos rfl] at z; cases z; exact ⟨h2.1, fun z => h2.2 (.inl (c.PB z)), _, h3, fun ps z => by cases z⟩) (c.Gx f.2 (d3 a)) ⟨a, vs, i2 a, rfl, h3, h4.ex (d2 a)⟩ hi (fun _ _ => rfl)⟩
/-- one's own list, one's own dict is changed -/
theorem EnvA.mut (E : EnvA c A n σ H ρ) {i : Nat} {a : Addr} {o u : HO} {r : DV} (hA : A i = some a) (ho : H a = some o) (ty : (∃ xs, o = .lst xs) ∨ ∃ kvs, o = .dK kvs) (hu : ∀ ps, u ≠ HO.tbl ps)
    (h : SlOk c.t (msk (c.av n A) H) (upd H a u) (A i) (σ[i]?) r) (ow : i < ρ.length → r.isOwn = true) : EnvA c A n σ (upd H a u) (ρ.set i r) := by
  have av : c.av n A a := .inr ⟨i, hA⟩
  have mk : msk (c.av n A) (upd H a u) = msk (c.av n A) H := by
    funext b
    by_cases z : c.av n A b
    · unfold msk
      rw [if_pos z, if_pos z]
    · rw [msk_out z, msk_out z, upd_ne (fun e => z (by rw [e]; exact av))]
  have ne : ∀ {b : Addr} {o' : HO}, H b = some o' → (∀ xs, o' ≠ HO.lst xs) → (∀ kvs, o' ≠ HO.dK kvs) → b ≠ a := fun {b o'} e l d z => by
    rw [z, ho] at e
    cases e
    rcases ty with ⟨xs, q⟩ | ⟨kvs, q⟩
    · exact l xs q
    · exact d kvs q
  refine ⟨fun b o' q e => ?_, c.Gm n _ _ H _ E.g (by rw [mk]; exact fun _ _ _ h => h) (fun b o' l d _ e => by rw [upd_ne (ne e l d)]; exact e) fun b o' p e => ?_, E.new, fun j b e => ?_, E.inj, fun j x e => ?_, by rw [List.length_set]; exact E.len, fun p hp => by rw [mk]; exact E.pin p hp, E.fin, fun j b x e1 e2 => ?_⟩
  · rw [upd_ne]
    · exact E.keep b o' q e
    · intro z
      rw [z] at e
      obtain ⟨ps, z2⟩ := E.new i a hA o' e
      exact q ps z2
  · rw [upd_ne]
    · exact e
    · intro z
      rw [z] at p
      exact E.nP hA (c.PB p)
  · by_cases z : b = a
    · subst z
      exact ⟨⟨u, upd_same, hu⟩, (E.has j b e).2⟩
    · rw [upd_ne z]
      exact E.has j b e
  · rw [mk]
    by_cases z : j = i
    · subst z
      have hj : j < ρ.length := by
        have := (List.getElem?_eq_some_iff.mp e).1
        rwa [List.length_set] at this
      rw [List.getElem?_set_self hj] at e
      cases e
      exact h
    · rw [List.getElem?_set_ne (fun q => z q.symm)] at e
      refine (E.slot j x e).ex (fun b o' _ h => h) fun b o' h1 h2 h3 => ?_
      rw [upd_ne]
      · exact h3
      · intro q
        rw [q] at h1
        exact z (E.inj j i a h1 hA)
  · by_cases z : j = i
    · subst z
      have hj : j < ρ.length := by
        have := (List.getElem?_eq_some_iff.mp e2).1
        rwa [List.length_set] at this
      rw [List.getElem?_set_self hj] at e2
      cases e2
      exact ow hj
    · rw [List.getElem?_set_ne (fun q => z q.symm)] at e2
      exact E.mine j b x e1 e2
/-- what is one's own is left as data -/
theorem EnvA.frz (E : EnvA c A n σ H ρ) (i : Nat) : EnvA c (fun j => if j = i then none else A j) n σ H (match ρ[i]? with | some (.own ds) => ρ.set i (.d (.list ds)) | some (.dic _) => ρ.set i .un | _ => ρ) := by
  have drop : ∀ {b : Addr}, c.av n (fun j => if j = i then none else A j) b → c.av n A b := fun {b} z => by
    rcases z with z | ⟨j, z⟩
    · exact .inl z
    · have z' : (if j = i then none else A j) = some b := z
      split at z'
      · cases z'
      · exact .inr ⟨j, z'⟩
  have xt : Xt (msk (c.av n A) H) (msk (c.av n (fun j => if j = i then none else A j)) H) := fun b o _ e => by
    obtain ⟨h1, h2⟩ := msk_some e
    rw [msk_out fun z => h1 (drop z)]
    exact h2
  have up : ∀ {j : Nat} {a : Addr}, (fun j => if j = i then none else A j) j = some a → j ≠ i ∧ A j = some a := fun {j a} z => by
    have z' : (if j = i then none else A j) = some a := z
    split at z'
    · cases z'
    · exact ⟨by assumption, z'⟩
  have other : ∀ (ρ' : List DV) j x, j ≠ i → ρ[j]? = some x → SlOk c.t (msk (c.av n (fun j => if j = i then none else A j)) H) H ((fun j => if j = i then none else A j) j) (σ[j]?) x := fun ρ' j x z e => by
    show SlOk _ _ _ (if j = i then none else A j) _ _
    rw [if_neg z]
    exact (E.slot j x e).ex xt fun _ _ _ _ h => h
  have base : ∀ ρ' : List DV, ρ'.length = ρ.length → (∀ j, j ≠ i → ρ'[j]? = ρ[j]?) → (∀ j x, ρ'[j]? = some x → SlOk c.t (msk (c.av n (fun j => if j = i then none else A j)) H) H ((fun j => if j = i then none else A j) j) (σ[j]?) x) → EnvA c (fun j => if j = i then none else A j) n σ H ρ' := fun ρ' hl ho hs =>
    ⟨E.keep, c.Gx E.g xt, fun j a e => E.new j a (up e).2, fun j a e => E.has j a (up e).2, fun j k a e1 e2 => E.inj j k a (up e1).2 (up e2).2, hs, by rw [hl]; exact E.len, fun p hp => (E.pin p hp).ex xt, by
      obtain ⟨N, hN⟩ := E.fin
      exact ⟨N, fun k hk => by
        show (if k = i then none else A k) = none
        split
        · rfl
        · exact hN k hk⟩, fun j a x e1 e2 => E.mine j a x (up e1).2 (by rw [← ho j (up e1).1]; exact e2)⟩
  have set : ∀ y, SlOk c.t (msk (c.av n (fun j => if j = i then none else A j)) H) H ((fun j => if j = i then none else A j) i) (σ[i]?) y → EnvA c (fun j => if j = i then none else A j) n σ H (ρ.set i y) := fun y hy => base _ (List.length_set ..) (fun j z => List.getElem?_set_ne fun q => z q.symm) fun j x e => by
    by_cases z : j = i
    · subst z
      have hj : j < ρ.length := by
        have := (List.getElem?_eq_some_iff.mp e).1
        rwa [List.length_set] at this
      rw [List.getElem?_set_self hj] at e
      cases e
      exact hy
    · rw [List.getElem?_set_ne (fun q => z q.symm)] at e
      exact other ρ j x z e
  have rest : (∀ x, ρ[i]? = some x → (∀ ds, x ≠ .own ds) ∧ ∀ kvs, x ≠ .dic kvs) → EnvA c (fun j => if j = i then none else A j) n σ H ρ := fun nx => base ρ rfl (fun _ _ => rfl) fun j x e => by
    by_cases z : j = i
    · subst z
      obtain ⟨n1, n2⟩ := nx x e
      have q := E.slot j x e
      cases x with
      | un => exact True.intro
      | tape => exact q
      | raw v => exact q
      | d y =>
        obtain ⟨v, h1, h2⟩ := q
        exact ⟨v, h1, h2.ex xt⟩
      | own ds => exact (n1 ds rfl).elim
      | dic kvs => exact (n2 kvs rfl).elim
    · exact other ρ j x z e
  split
  · rename_i ds e
    obtain ⟨a, vs, h1, h2, h3, h4⟩ := E.slot i _ e
    refine set _ ⟨.ref a, h2, .lst ?_ (h4.ex xt)⟩
    rw [msk_out]
    · exact h3
    · rintro (z | ⟨j, z⟩)
      · exact E.nP h1 z
      · exact (up z).1 (E.inj j i a (up z).2 h1)
  · exact set _ True.intro
  · rename_i n1 n2
    exact rest fun x e => ⟨fun ds z => n1 ds (by rw [e, z]), fun kvs z => n2 kvs (by rw [e, z])⟩
end
def frzV : DV → DV
  | .own ds => .d (.list ds)
  | .dic _ => .un
  | x => x
def frz : Nat → List DV → List DV
  | _, [] => []
  | 0, x :: xs => frzV x :: xs
  | i + 1, x :: xs => x :: frz i xs
theorem frz_eq : ∀ (i : Nat) (ρ : List DV), (match ρ[i]? with | some (.own ds) => ρ.set i (.d (.list ds)) | some (.dic _) => ρ.set i .un | _ => ρ) = frz i ρ
  | i, [] => by simp [frz]
  | 0, x :: xs => by cases x <;> rfl
  | i + 1, x :: xs => by
    show _ = x :: frz i xs
    rw [← frz_eq i xs, List.getElem?_cons_succ]
    split <;> rfl
structure DE where
  nx : List DV → Fam.S → Prop
  rt : DQ
  bk : List DV → Fam.S → Prop := fun _ _ => False
  ct : List DV → Fam.S → Prop := fun _ _ => False
abbrev DS := DE → List DV → Fam.S → Prop
structure Link (c : EC) (E : DE) (D : Ends) : Prop where
  nx : ∀ A n σ H ρ, E.nx ρ n → EnvA c A n σ H ρ → D.nx σ H
  rt : ∀ v r n H', E.rt r n → FrV c A0 c.n0 n c.H0 H' v r → VOk c.t (c.B n) c.H0 v H' r → D.rt v H'
  bk : ∀ A n σ H ρ, E.bk ρ n → EnvA c A n σ H ρ → D.bk σ H
  ct : ∀ A n σ H ρ, E.ct ρ n → EnvA c A n σ H ρ → D.ct σ H
def sD (F : DS) : TS := fun D σ H => ∃ (c : EC) (A : Nat → Option Addr) (n : Fam.S) (ρ : List DV) (E : DE), EnvA c A n σ H ρ ∧ F E ρ n ∧ Link c E D
def dSeq (F G : DS) : DS := fun E ρ n => F { E with nx := G E } ρ n
def dNext : DS := fun E ρ n => E.nx ρ n
theorem psCons {X : Cx} {st : Stmt} {rest : List Stmt} {F G : DS} (h : PS X st (sD F)) (h2 : PSs X rest (sD G)) : PSs X (st :: rest) (sD (dSeq F G)) := (pss_cons h h2).imp fun D σ H ⟨c, A, n, ρ, E, e, hf, L⟩ =>
  ⟨c, A, n, ρ, _, e, hf, fun A n σ H ρ h e' => ⟨c, A, n, ρ, E, e', h, L⟩, L.rt, L.bk, L.ct⟩
theorem psOne {X : Cx} {st : Stmt} {F : DS} (h : PS X st (sD F)) : PSs X [st] (sD F) := pss_one h
theorem psFrz {X : Cx} {st : List Stmt} {F : DS} (i : Nat) (h : PSs X st (sD F)) : PSs X st (sD fun E ρ n => F E (frz i ρ) n) := h.imp fun D σ H ⟨c, A, n, ρ, E, e, hf, L⟩ => ⟨c, _, n, _, E, (frz_eq i ρ) ▸ e.frz i, hf, L⟩
def dSet (i : Nat) (f : DF) : DS := fun E ρ n => f ρ n fun r n1 => i < ρ.length ∧ E.nx (ρ.set i r) n1
theorem set_le {i : Nat} {f : DF} (D : Ends) (σ : L2.St) (H : Hp) (q : sD (dSet i f) D σ H) : tAsg (tD f) (gName i) D σ H := by
  obtain ⟨c, A, n, ρ, E, e, hf, L⟩ := q
  refine ⟨c, A, n, ρ, _, e, hf, fun v r n1 H1 ⟨hi, h1⟩ f1 o1 => ?_⟩
  obtain ⟨A', e'⟩ := e.put f1 o1 hi
  exact L.nx _ _ _ _ _ h1 e'
theorem psSet {X : Cx} {i : Nat} {x : Str} {e : Expr} {f : DF} {pos' pos : Pos} (hN : X.N.Nodup) (hi : X.N[i]? = some x) (hx : Loc X.env.scope x) (he : PE X e (tD f)) (hs : swapsWith e (some (.Name x pos')) pos.line X.env = pure false := by rfl) (hf : X.fn x = true ∨ X.env.scope.names.lookup x = some .local := by first | exact .inl rfl | exact .inr rfl | assumption) :
    PS X (.Assign [.Name x pos'] e pos) (sD (dSet i f)) := (ps_set hN hi hx he hs hf).imp set_le
theorem VOk.home {c : EC} {A : Nat → Option Addr} {n k : Fam.S} {σ : L2.St} {H H' : Hp} {ρ : List DV} (E : EnvA c A n σ H ρ) {v : V} {r : DV} (h : VOk c.t (c.av k A) H v H' r) : VOk c.t (c.B k) c.H0 v H' r := by
  have xt : Xt (msk (c.av k A) H') (msk (c.B k) H') := fun b o _ e => by
    obtain ⟨h1, h2⟩ := msk_some e
    rw [msk_out fun z => h1 (.inl z)]
    exact h2
  have xt2 : ∀ a, Xt (msk (fun b => c.av k A b ∨ b = a) H') (msk (fun b => c.B k b ∨ b = a) H') := fun a b o _ e => by
    obtain ⟨h1, h2⟩ := msk_some e
    rw [msk_out fun z => h1 (z.elim (fun z => .inl (.inl z)) .inr)]
    exact h2
  cases r with
  | un => exact h
  | tape => exact h
  | raw v => exact h
  | d x => exact Rp.ex h xt
  | own ds =>
    obtain ⟨a, vs, h1, h2, h3, h4⟩ := h
    exact ⟨a, vs, h1, ⟨h2.1.fr E.fr0, fun z => h2.2 (.inl z)⟩, h3, h4.ex (xt2 a)⟩
  | dic kvs =>
    obtain ⟨a, vs, h1, h2, h3, h4⟩ := h
    exact ⟨a, vs, h1, ⟨h2.1.fr E.fr0, fun z => h2.2 (.inl z)⟩, h3, h4.ex (xt2 a)⟩
theorem hide_A0 {c : EC} {n : Fam.S} {A : Nat → Option Addr} {H : Hp} {v : V} {r : DV} : Xt (msk (hide r v (c.av n A)) H) (msk (hide r v (c.av n A0)) H) := fun b o _ e => by
  obtain ⟨h1, h2⟩ := msk_some e
  rw [msk_out]
  · exact h2
  · have up : c.av n A0 b → c.av n A b := fun z => z.elim .inl fun ⟨i, e⟩ => by cases e
    intro z
    apply h1
    cases r with
    | own _ => exact z.imp up id
    | dic _ => exact z.imp up id
    | _ => exact up z
theorem FrV.home {c : EC} {A : Nat → Option Addr} {n k : Fam.S} {σ : L2.St} {H H' : Hp} {ρ : List DV} {v : V} {r : DV} (E : EnvA c A n σ H ρ) (f : FrV c A n k H H' v r) : FrV c A0 c.n0 k c.H0 H' v r := ⟨E.keep.trans f.1, c.Gx f.2 hide_A0⟩
def dRet (f : DF) : DS := fun E ρ n => f ρ n E.rt
theorem psRet {X : Cx} {e : Expr} {f : DF} {pos : Pos} (he : PE X e (tD f)) : PS X (.Return (some e) pos) (sD (dRet f)) := (ps_ret he).imp fun D σ H ⟨c, A, n, ρ, E, e, hf, L⟩ =>
  ⟨c, A, n, ρ, _, e, hf, fun v r n1 H1 h1 f1 o1 => L.rt v r n1 H1 h1 (f1.home e) (o1.home e)⟩
def dIfS (t : DT) (F G : DS) : DS := fun E ρ n => t ρ n fun b n1 => if b = true then F E ρ n1 else G E ρ n1
theorem psIf {X : Cx} {c : Expr} {a b : List Stmt} {t : DT} {F G : DS} {pos : Pos} (hc : PT X c (tDT t)) (ha : PSs X a (sD F)) (hb : PSs X b (sD G)) : PS X (.If c a b pos) (sD (dIfS t F G)) := (ps_if hc ha hb).imp fun D σ H ⟨c, A, n, ρ, E, e, hf, L⟩ => by
  refine ⟨c, A, n, ρ, _, e, hf, fun b n1 H1 h1 f1 => ?_⟩
  cases b with
  | true => exact ⟨c, A, n1, ρ, E, e.fr f1, h1, L⟩
  | false => exact ⟨c, A, n1, ρ, E, e.fr f1, h1, L⟩
theorem psNil {X : Cx} : PSs X [] (sD dNext) := pss_nil.imp fun D σ H ⟨c, A, n, ρ, E, e, hf, L⟩ => L.nx _ _ _ _ _ hf e
theorem psBrk {X : Cx} {pos : Pos} : PS X (.Break pos) (sD fun E ρ n => E.bk ρ n) := ps_break.imp fun D σ H ⟨c, A, n, ρ, E, e, hf, L⟩ => L.bk _ _ _ _ _ hf e
theorem psCnt {X : Cx} {pos : Pos} : PS X (.Continue pos) (sD fun E ρ n => E.ct ρ n) := ps_continue.imp fun D σ H ⟨c, A, n, ρ, E, e, hf, L⟩ => L.ct _ _ _ _ _ hf e
def dExp (f : DF) : DS := fun E ρ n => f ρ n fun _ n1 => E.nx ρ n1
theorem psExp {X : Cx} {e : Expr} {f : DF} {pos : Pos} (he : PE X e (tD f)) (hs : swapsWith e none pos.line X.env = pure false := by rfl) : PS X (.Expr e pos) (sD (dExp f)) := (ps_expr he hs).imp fun D σ H ⟨c, A, n, ρ, E, e, hf, L⟩ =>
  ⟨c, A, n, ρ, _, e, hf, fun v r n1 H1 h1 f1 o1 => L.nx _ _ _ _ _ h1 (e.fr f1)⟩
def dAug (i : Nat) (op : Int → Int → Int) (f : DF) : DS := fun E ρ n => ∃ a, ρ[i]? = some (.d (.int a)) ∧ f ρ n fun r n1 => ∃ b, r = .d (.int b) ∧ E.nx (ρ.set i (.d (.int (op a b)))) n1
theorem psAug {X : Cx} {i : Nat} {x : Str} {e : Expr} {o : Operator} {op : Int → Int → Int} {f : DF} {pos' pos : Pos} (hN : X.N.Nodup) (hi : X.N[i]? = some x) (hx : Loc X.env.scope x) (ho : PIp X o (ipI op)) (he : PE X e (tD f)) (hf : X.fn x = true ∨ X.env.scope.names.lookup x = some .local := by first | exact .inl rfl | exact .inr rfl | assumption) :
    PS X (.AugAssign (.Name x pos') o e pos) (sD (dAug i op f)) := (ps_aug hN hi hx he ho hf).imp fun D σ H ⟨c, A, n, ρ, E, e, ⟨a, ha, hf⟩, L⟩ => by
  obtain ⟨v, h1, h2⟩ := e.slot i _ ha
  cases h2
  refine ⟨_, h1, c, A, n, ρ, _, e, hf, fun w r n1 H1 ⟨b, e1, h3⟩ f1 o1 => ?_⟩
  subst e1
  cases o1
  refine ⟨a, b, rfl, rfl, ?_⟩
  obtain ⟨A', e'⟩ := (e.fr f1).put (.refl f1.2) (i := i) (v := .int (op a b)) (r := .d (.int (op a b))) (Rp.int _) (List.getElem?_eq_some_iff.mp ha).1
  exact L.nx _ _ _ _ _ h3 e'
/-- xs.append(e), xs.extend(e), xs a list of one's own -/
def dApp (i : Nat) (f : DF) : DS := fun E ρ n => f ρ n fun r n1 => ∃ ds, ρ[i]? = some (.own ds) ∧ ∃ d, r.dat = some d ∧ ds.length < 100000 ∧ E.nx (ρ.set i (.own (ds ++ [d]))) n1
def dExt (i : Nat) (f : DF) : DS := fun E ρ n => f ρ n fun r n1 => ∃ ds, ρ[i]? = some (.own ds) ∧ ∃ es, r.dat = some (.list es) ∧ ds.length + es.length ≤ 100000 ∧ E.nx (ρ.set i (.own (ds ++ es))) n1
theorem set_self {ρ : List DV} {i : Nat} {x : DV} (h : ρ[i]? = some x) : ρ.set i x = ρ := by
  apply List.ext_getElem?
  intro j
  by_cases e : i = j
  · subst e
    rw [List.getElem?_set_self (List.getElem?_eq_some_iff.mp h).1, h]
  · rw [List.getElem?_set_ne e]
theorem psApp {X : Cx} {i : Nat} {e : Expr} {f : DF} {pos : Pos} (hs : swapsWith e none pos.line X.env = pure false) (h : PE X e (tBM X.K "list" rAppend (tVar i) (tCons (tD f) tNil))) : PS X (.Expr e pos) (sD (fun E ρ n => (∃ ds, ρ[i]? = some (.own ds)) ∧ dApp i f E ρ n)) := (ps_expr h hs).imp fun D σ H ⟨c, A, n, ρ, E, e, ⟨⟨ds0, h0⟩, hf⟩, L⟩ => by
  obtain ⟨a, vs, h1, h2, h3, h4⟩ := e.slot i _ h0
  refine ⟨_, h2, .inl ⟨rfl, _, SqL.of h3⟩, c, A, n, ρ, _, e, hf, fun v r n1 H1 ⟨ds, g1, d, g2, g3, g4⟩ f1 o1 => ?_⟩
  have e1 := e.fr f1
  rw [h0] at g1
  cases g1
  obtain ⟨a', vs', k1, k2, k3, k4⟩ := e1.slot i _ h0
  rw [h1] at k1
  cases k1
  have rv := o1.dat e g2
  refine ⟨a, vs', v, rfl, rfl, k3, big_lt (by rw [k4.length]; exact g3), ?_⟩
  exact L.nx _ _ _ _ _ g4 (e1.mut h1 k3 (.inl ⟨_, rfl⟩) (fun ps z => by cases z) ⟨a, _, h1, h2, upd_same, k4.app (.one rv)⟩ fun _ => rfl)
theorem psExt {X : Cx} {i : Nat} {e : Expr} {f : DF} {pos : Pos} (hs : swapsWith e none pos.line X.env = pure false) (h : PE X e (tBM X.K "list" rExtend (tVar i) (tCons (tD f) tNil))) : PS X (.Expr e pos) (sD (fun E ρ n => (∃ ds, ρ[i]? = some (.own ds)) ∧ dExt i f E ρ n)) := (ps_expr h hs).imp fun D σ H ⟨c, A, n, ρ, E, e, ⟨⟨ds0, h0⟩, hf⟩, L⟩ => by
  obtain ⟨a, vs, h1, h2, h3, h4⟩ := e.slot i _ h0
  refine ⟨_, h2, .inl ⟨rfl, _, SqL.of h3⟩, c, A, n, ρ, _, e, hf, fun v r n1 H1 ⟨ds, g1, es, g2, g3, g4⟩ f1 o1 => ?_⟩
  have e1 := e.fr f1
  rw [h0] at g1
  cases g1
  obtain ⟨a', vs', k1, k2, k3, k4⟩ := e1.slot i _ h0
  rw [h1] at k1
  cases k1
  have rv := o1.dat e g2
  cases rv with
  | lst hb rb =>
    refine ⟨a, _, vs', _, rfl, rfl, k3, (msk_some hb).2, big_line (by rw [k4.length, rb.length]; exact g3), ?_⟩
    exact L.nx _ _ _ _ _ g4 (e1.mut h1 k3 (.inl ⟨_, rfl⟩) (fun ps z => by cases z) ⟨a, _, h1, h2, upd_same, k4.app rb⟩ fun _ => rfl)
/-- a look at one's own: what is told is no list and no tuple -/
def PyData.flat0 : PyData → Bool
  | .none => true
  | .bool _ => true
  | .int _ => true
  | .str _ => true
  | _ => false
def dPeek (f : DF) : DF := fun ρ n Q => f (ρ.map DV.cold) n fun r n1 => ∃ d, r = .d d ∧ PyData.flat0 d = true ∧ Q r n1
theorem EnvA.colds {c : EC} {A : Nat → Option Addr} {n : Fam.S} {σ : L2.St} {H : Hp} {ρ : List DV} (E : EnvA c A n σ H ρ) : ∃ A', EnvA c A' n σ H ((ρ.map DV.cold).map fun x => match x with | .dic _ => .un | y => y) := by
  have av : ∀ {b : Addr}, ¬ c.B n b → ¬ c.av n (fun _ => none) b := fun nb z => by
    rcases z with z | ⟨j, z⟩
    · exact nb z
    · cases z
  have xt : Xt (msk (c.av n A) H) (msk (c.av n (fun _ => none)) H) := fun b o _ e => by
    obtain ⟨h1, h2⟩ := msk_some e
    rw [msk_out (av fun z => h1 (.inl z))]
    exact h2
  refine ⟨fun _ => none, E.keep, c.Gx E.g xt, fun i a e => (by cases e), fun i a e => (by cases e), fun i j a e => (by cases e), fun i x e => ?_, by rw [List.length_map, List.length_map]; exact E.len, fun p hp => (E.pin p hp).ex xt, ⟨0, fun _ _ => rfl⟩, fun i a x e => (by cases e)⟩
  rw [List.getElem?_map, List.getElem?_map] at e
  cases h : ρ[i]? with
  | none =>
    rw [h] at e
    cases e
  | some y =>
    rw [h] at e
    have q := E.slot i y h
    cases y with
    | un => cases e; exact True.intro
    | tape => cases e; exact q
    | raw v => cases e; exact q
    | d z =>
      cases e
      obtain ⟨v, h1, h2⟩ := q
      exact ⟨v, h1, h2.ex xt⟩
    | own ds =>
      cases e
      obtain ⟨a, vs, h1, h2, h3, h4⟩ := q
      refine ⟨.ref a, h2, .lst ?_ (h4.ex xt)⟩
      rw [msk_out (av (E.nP h1))]
      exact h3
    | dic kvs => cases e; exact True.intro
theorem flat_rp {d : PyData} {M M' : Hp} {v : V} (h : PyData.flat0 d = true) (r : Rp M v d) : Rp M' v d := by
  cases r with
  | lst _ _ => cases h
  | tup _ _ => cases h
  | hnd _ => cases h
  | non => exact .non
  | bl b => exact .bl b
  | int i => exact .int i
  | str x => exact .str x
def coldD : List DV → List DV := fun ρ => (ρ.map DV.cold).map fun x => match x with | .dic _ => .un | y => y
def dPk (f : DF) : DF := fun ρ n Q => f (coldD ρ) n fun r n1 => ∃ d, r = .d d ∧ PyData.flat0 d = true ∧ Q r n1
/-- states without data -/
class Quiet : Prop where
  q : ∀ {u t : V} {M M' H : Hp} {n : Fam.S}, Fam.Tq u t M H n → Fam.Tq u t M' H n
theorem EC.Gq [Quiet] (c : EC) {n : Fam.S} {M M' H : Hp} (g : c.G n M H) : c.G n M' H := ⟨Quiet.q g.1, g.2⟩
theorem pdPk [Quiet] {X : Cx} {e : Expr} {f : DF} (h : PE X e (tD f)) : PE X e (tD (dPk f)) := h.imp fun σ H Q ⟨c, A, n, ρ, Q', E, hf, k⟩ => by
  obtain ⟨A', E'⟩ := E.colds
  refine ⟨c, A', n, _, _, E', hf, fun v r n1 H1 ⟨d, e1, e2, h1⟩ f1 o1 => ?_⟩
  subst e1
  exact k v _ n1 H1 h1 ⟨f1.1, c.Gq f1.2⟩ (flat_rp e2 o1)
end

/-! ### data readings: targets, loops, comprehensions, defs -/
section
variable [Fam] [Tabz]
abbrev DG := PyData → List DV → Option (List DV)
/-- a target: it changes the slots of sl alone -/
def gD (sl : List Nat) (g : DG) : TG := fun v σ H Q => ∃ (c : EC) (A : Nat → Option Addr) (n : Fam.S) (ρ ρ' : List DV) (d : PyData), EnvA c A n σ H ρ ∧ Rp (msk (c.av n A) H) v d ∧ g d ρ = some ρ' ∧
  ∀ A' σ', EnvA c A' n σ' H ρ' → σ'.length = σ.length → (∀ j, j ∉ sl → σ'[j]? = σ[j]? ∧ A' j = A j) → Q σ' H
def gDs (sl : List Nat) (g : List PyData → List DV → Option (List DV)) : TGs := fun vs σ H Q => ∃ (c : EC) (A : Nat → Option Addr) (n : Fam.S) (ρ ρ' : List DV) (ds : List PyData), EnvA c A n σ H ρ ∧ RpA (msk (c.av n A) H) vs ds ∧ g ds ρ = some ρ' ∧
  ∀ A' σ', EnvA c A' n σ' H ρ' → σ'.length = σ.length → (∀ j, j ∉ sl → σ'[j]? = σ[j]? ∧ A' j = A j) → Q σ' H
theorem _root_.L2.PG.imp {X : Cx} {e : Expr} {t t' : TG} (h : PG X e t) (i : ∀ v σ H Q, t' v σ H Q → t v σ H Q) : PG X e t' := ⟨fun pins s σ H v u Q I r q => h.run pins s σ H v u Q I r (i v σ H Q q)⟩
theorem _root_.L2.PGs.imp {X : Cx} {e : List Expr} {t t' : TGs} (h : PGs X e t) (i : ∀ v σ H Q, t' v σ H Q → t v σ H Q) : PGs X e t' := ⟨fun pins s σ H v u Q I r q => h.run pins s σ H v u Q I r (i v σ H Q q)⟩
def gN (i : Nat) : DG := fun d ρ => if i < ρ.length then some (ρ.set i (.d d)) else none
theorem EnvA.putD {c : EC} {A : Nat → Option Addr} {n : Fam.S} {σ : L2.St} {H : Hp} {ρ : List DV} (E : EnvA c A n σ H ρ) {i : Nat} {v : V} {d : PyData} (r : Rp (msk (c.av n A) H) v d) (hi : i < ρ.length) : EnvA c (fun j => if j = i then none else A j) n (σ.set i (some v)) H (ρ.set i (.d d)) := by
  have xt : Xt (msk (c.av n A) H) (msk (c.av n (fun j => if j = i then none else A j)) H) := fun b o _ e => by
    obtain ⟨h1, h2⟩ := msk_some e
    rw [msk_out]
    · exact h2
    · rintro (z | ⟨j, z⟩)
      · exact h1 (.inl z)
      · have z' : (if j = i then none else A j) = some b := z
        split at z'
        · cases z'
        · exact h1 (.inr ⟨j, z'⟩)
  refine E.put' (Fr.refl E.g) (fun j z => by show (if j = i then none else A j) = _; rw [if_neg z]) (fun a z => ?_) (c.Gx E.g xt) ⟨v, rfl, r.ex xt⟩ hi (fun a z => by rw [if_pos rfl] at z; cases z)
  have z' : (if i = i then none else A i) = some a := z
  rw [if_pos rfl] at z'
  cases z'
theorem pgN {X : Cx} {i : Nat} {e : Expr} (h : PG X e (gName i)) : PG X e (gD [i] (gN i)) := h.imp fun v σ H Q ⟨c, A, n, ρ, ρ', d, E, r, hg, k⟩ => by
  unfold gN at hg
  split at hg
  · rename_i hi
    cases hg
    refine k _ _ (E.putD r hi) (List.length_set ..) fun j hj => ⟨List.getElem?_set_ne fun z => hj (by rw [z]; exact List.mem_singleton.mpr rfl), ?_⟩
    show (if j = i then none else A j) = A j
    rw [if_neg fun z => hj (by rw [z]; exact List.mem_singleton.mpr rfl)]
  · cases hg
def gNone : List PyData → List DV → Option (List DV) := fun ds ρ => match ds with | [] => some ρ | _ => none
def gMore (g : DG) (gs : List PyData → List DV → Option (List DV)) : List PyData → List DV → Option (List DV) := fun ds ρ => match ds with | [] => none | d :: ds => match g d ρ with | none => none | some ρ' => gs ds ρ'
theorem RpA.zips {M : Hp} : ∀ {vs : List V} {ds : List PyData}, RpA M vs ds → ∀ p ∈ List.zip vs ds, Rp M p.1 p.2
  | _, _, .nil => fun p hp => by cases hp
  | _, _, .cons r t => fun p hp => by
    rcases List.mem_cons.mp hp with e | e
    · rw [e]; exact r
    · exact RpA.zips t p e
theorem RpA.of_zips {M : Hp} : ∀ {vs : List V} {ds : List PyData}, vs.length = ds.length → (∀ p ∈ List.zip vs ds, Rp M p.1 p.2) → RpA M vs ds
  | [], [], _, _ => .nil
  | [], _ :: _, e, _ => by cases e
  | _ :: _, [], e, _ => by cases e
  | v :: vs, d :: ds, e, h => .cons (h (v, d) List.mem_cons_self) (RpA.of_zips (Nat.succ.inj e) fun p hp => h p (List.mem_cons_of_mem _ hp))
theorem pgNil {X : Cx} : PGs X [] (gDs [] gNone) := pgs_nil.imp fun vs σ H Q ⟨c, A, n, ρ, ρ', ds, E, r, hg, k⟩ => by
  unfold gNone at hg
  split at hg
  · cases hg
    cases r
    exact ⟨rfl, k A σ E rfl fun j _ => ⟨rfl, rfl⟩⟩
  · cases hg
theorem pgCons {X : Cx} {e : Expr} {es : List Expr} {s1 s2 : List Nat} {g : DG} {gs : List PyData → List DV → Option (List DV)} (h1 : PG X e (gD s1 g)) (h2 : PGs X es (gDs s2 gs))
    (hs : (assignEach (e :: es) X.env).map (·.2) = assign e X.env :: (assignEach es X.env).map (·.2) := by rfl) : PGs X (e :: es) (gDs (s1 ++ s2) (gMore g gs)) := (pgs_cons h1 h2 hs).imp fun vs σ H Q ⟨c, A, n, ρ, ρ', ds, E, r, hg, k⟩ => by
  unfold gMore at hg
  cases r with
  | nil => cases hg
  | @cons v vs d ds r rs =>
    have hg' : (match g d ρ with | none => none | some ρ' => gs ds ρ') = some ρ' := hg
    cases q : g d ρ with
    | none => rw [q] at hg'; cases hg'
    | some ρ1 =>
      rw [q] at hg'
      have Ep : EnvA (c.pin (List.zip vs ds)) A n σ H ρ := ⟨E.keep, E.g, E.new, E.has, E.inj, E.slot, E.len, fun p hp => by
        rcases List.mem_append.mp hp with hp | hp
        · exact rs.zips p hp
        · exact E.pin p hp, E.fin, E.mine⟩
      refine ⟨v, vs, rfl, c.pin (List.zip vs ds), A, n, ρ, ρ1, d, Ep, r, q, fun A1 σ1 E1 l1 o1 => ?_⟩
      have rs1 : RpA (msk (c.av n A1) H) vs ds := by
        exact RpA.of_zips rs.length fun p hp => E1.pin p (List.mem_append.mpr (.inl hp))
      have E1' : EnvA c A1 n σ1 H ρ1 := ⟨E1.keep, E1.g, E1.new, E1.has, E1.inj, E1.slot, E1.len, fun p hp => E1.pin p (List.mem_append.mpr (.inr hp)), E1.fin, E1.mine⟩
      refine ⟨c, A1, n, ρ1, ρ', ds, E1', rs1, hg', fun A2 σ2 E2 l2 o2 => k A2 σ2 E2 (l2.trans l1) fun j hj => ?_⟩
      have n1 : j ∉ s1 := fun z => hj (List.mem_append.mpr (.inl z))
      have n2 : j ∉ s2 := fun z => hj (List.mem_append.mpr (.inr z))
      exact ⟨(o2 j n2).1.trans (o1 j n1).1, (o2 j n2).2.trans (o1 j n1).2⟩
def gTp (n : Nat) (gs : List PyData → List DV → Option (List DV)) : DG := fun d ρ => match d with | .tuple ds => if ds.length = n then gs ds ρ else none | _ => none
theorem pgTup {X : Cx} {es : List Expr} {k : Nat} {sl : List Nat} {gs : List PyData → List DV → Option (List DV)} {pos : Pos} {n : Nat} (hc : X.calm = true) (h : PGs X es (gDs sl gs))
    (hn : (assignEach es X.env).length = n := by rfl) (hst : (assignEach es X.env).findIdx? (·.1) = none := by rfl) : PG X (.Tuple es k pos) (gD sl (gTp n gs)) := (pg_tup hc h hn hst).imp fun v σ H Q ⟨c, A, m, ρ, ρ', d, E, r, hg, k⟩ => by
  unfold gTp at hg
  split at hg
  · split at hg
    · rename_i ds hl
      cases r with
      | tup h1 h2 => exact ⟨_, _, rfl, SqT.of (msk_some h1).2, by rw [h2.length]; exact hl, c, A, m, ρ, ρ', ds, E, h2, hg, k⟩
    · cases hg
  · cases hg
/-- a, b = e -/
def dAsg (g : DG) (f : DF) : DS := fun E ρ n => f ρ n fun r n1 => ∃ d, r.dat = some d ∧ ∃ ρ', g d ρ = some ρ' ∧ E.nx ρ' n1
theorem psAsg {X : Cx} {tg e : Expr} {f : DF} {sl : List Nat} {g : DG} {pos : Pos} (he : PE X e (tD f)) (hg : PG X tg (gD sl g)) (hs : swapsWithSole [tg] e pos.line X.env = pure false := by rfl) (hw : swappedStores [tg] e X.env = pure none := by rfl) (h1 : (assignEach [tg] X.env).map (·.2) = [assign tg X.env] := by rfl) : PS X (.Assign [tg] e pos) (sD (dAsg g f)) := (ps_asg he hg hs hw h1).imp fun D σ H ⟨c, A, n, ρ, E, e, hf, L⟩ =>
  ⟨c, A, n, ρ, _, e, hf, fun v r n1 H1 ⟨d, e1, ρ', e2, h1⟩ f1 o1 => ⟨c, A, n1, ρ, ρ', d, e.fr f1, o1.dat e e1, e2, fun A' σ' E' _ _ => L.nx _ _ _ _ _ h1 E'⟩⟩
/-- what is walked: ds, one by one, by J, while what is pinned stands -/
def WD (c : EC) (l : List (V × PyData)) (J : It) (ds : List PyData) : Prop := ∀ A n σ H ρ, EnvA (c.pin l) A n σ H ρ →
  (∀ i d, ds[i]? = some d → J.go i H ∧ ∀ x H2, J.yld i H x H2 → (∀ b o, H b = some o → H2 b = some o) ∧ Rp (msk (c.av n A) H2) x d) ∧ J.stop ds.length H
abbrev DI := List DV → Fam.S → (List PyData → Fam.S → Prop) → Prop
def iD (f : DI) : TI := fun σ H R => ∃ (c : EC) (A : Nat → Option Addr) (n : Fam.S) (ρ : List DV) (Q' : List PyData → Fam.S → Prop), EnvA c A n σ H ρ ∧ f ρ n Q' ∧ ∀ ds J n' H' l, Q' ds n' → Fr c A n n' H H' → (∀ p ∈ l, Rp (msk (c.av n' A) H') p.1 p.2) → WD c l J ds → R J H'
theorem _root_.L2.PI.imp {X : Cx} {tg iter : Expr} {t t' : TI} (h : PI X tg iter t) (i : ∀ σ H R, t' σ H R → t σ H R) : PI X tg iter t' := ⟨fun pins s σ H R I q => h.run pins s σ H R I (i σ H R q)⟩
theorem EnvA.pins {c : EC} {A : Nat → Option Addr} {n : Fam.S} {σ : L2.St} {H : Hp} {ρ : List DV} (E : EnvA c A n σ H ρ) {l : List (V × PyData)} (h : ∀ p ∈ l, Rp (msk (c.av n A) H) p.1 p.2) : EnvA (c.pin l) A n σ H ρ :=
  ⟨E.keep, E.g, E.new, E.has, E.inj, E.slot, E.len, fun p hp => (List.mem_append.mp hp).elim (h p) (E.pin p), E.fin, E.mine⟩
theorem EnvA.unpin {c : EC} {A : Nat → Option Addr} {n : Fam.S} {σ : L2.St} {H : Hp} {ρ : List DV} {l : List (V × PyData)} (E : EnvA (c.pin l) A n σ H ρ) : EnvA c A n σ H ρ :=
  ⟨E.keep, E.g, E.new, E.has, E.inj, E.slot, E.len, fun p hp => E.pin p (List.mem_append.mpr (.inr hp)), E.fin, E.mine⟩
theorem EnvA.pinned {c : EC} {A : Nat → Option Addr} {n : Fam.S} {σ : L2.St} {H : Hp} {ρ : List DV} {l : List (V × PyData)} (E : EnvA (c.pin l) A n σ H ρ) {p : V × PyData} (h : p ∈ l) : Rp (msk (c.av n A) H) p.1 p.2 := E.pin p (List.mem_append.mpr (.inl h))
/-- lists, tuples -/
def dIn (f : DF) : DI := fun ρ n Q => f ρ n fun r n1 => ∃ ds, r.dat = some (.list ds) ∧ Q ds n1
def dInT (f : DF) : DI := fun ρ n Q => f ρ n fun r n1 => ∃ ds, r.dat = some (.tuple ds) ∧ Q ds n1
theorem piList {X : Cx} {tg e : Expr} {f : DF} (h : PE X e (tD f)) : PI X tg e (iD (dIn f)) := (pi_list h).imp fun σ H R ⟨c, A, n, ρ, Q', E, hf, k⟩ => by
  refine ⟨c, A, n, ρ, _, E, hf, fun v r n1 H1 ⟨ds, e1, h1⟩ f1 o1 => ?_⟩
  have rp := o1.dat E e1
  cases rp with
  | @lst a xs _ h2 h3 =>
    refine ⟨a, rfl, ⟨xs, SqL.of (msk_some h2).2⟩, k ds _ n1 H1 [(.ref a, .list ds)] h1 f1.fr (fun p hp => by rw [List.mem_singleton.mp hp]; exact .lst h2 h3) fun A n σ H ρ E' => ?_⟩
    have p := E'.pinned (p := (.ref a, .list ds)) (List.mem_singleton.mpr rfl)
    cases p with
    | @lst _ ys _ g2 g3 =>
      have hl := g3.length
      have hs := SqL.of (K := X.K) (msk_some g2).2
      refine ⟨fun i d hd => ?_, walk_list.stops H hs |> fun z => by rw [← hl]; exact z⟩
      obtain ⟨y, e2, r2⟩ := g3.get hd
      exact ⟨walk_list.goes i H (List.getElem?_eq_some_iff.mp e2).1 hs, fun x H2 yl => by
        obtain ⟨rfl, e3⟩ := walk_list.yields i H x H2 (List.getElem?_eq_some_iff.mp e2).1 hs yl
        rw [e2] at e3
        cases e3
        exact ⟨fun _ _ h => h, r2⟩⟩
theorem piTup {X : Cx} {tg e : Expr} {f : DF} (h : PE X e (tD f)) : PI X tg e (iD (dInT f)) := (pi_tup h).imp fun σ H R ⟨c, A, n, ρ, Q', E, hf, k⟩ => by
  refine ⟨c, A, n, ρ, _, E, hf, fun v r n1 H1 ⟨ds, e1, h1⟩ f1 o1 => ?_⟩
  have rp := o1.dat E e1
  cases rp with
  | @tup a xs _ h2 h3 =>
    refine ⟨a, rfl, ⟨xs, SqT.of (msk_some h2).2⟩, k ds _ n1 H1 [(.ref a, .tuple ds)] h1 f1.fr (fun p hp => by rw [List.mem_singleton.mp hp]; exact .tup h2 h3) fun A n σ H ρ E' => ?_⟩
    have p := E'.pinned (p := (.ref a, .tuple ds)) (List.mem_singleton.mpr rfl)
    cases p with
    | @tup _ ys _ g2 g3 =>
      have hl := g3.length
      have hs := SqT.of (K := X.K) (msk_some g2).2
      refine ⟨fun i d hd => ?_, walk_tup.stops H hs |> fun z => by rw [← hl]; exact z⟩
      obtain ⟨y, e2, r2⟩ := g3.get hd
      exact ⟨walk_tup.goes i H (List.getElem?_eq_some_iff.mp e2).1 hs, fun x H2 yl => by
        obtain ⟨rfl, e3⟩ := walk_tup.yields i H x H2 (List.getElem?_eq_some_iff.mp e2).1 hs yl
        rw [e2] at e3
        cases e3
        exact ⟨fun _ _ h => h, r2⟩⟩
/-- reversed(list) -/
def dRev (f : DF) : DI := fun ρ n Q => f ρ n fun r n1 => ∃ ds, r.dat = some (.list ds) ∧ Q ds.reverse n1
theorem piRev {X : Cx} {tg e : Expr} {f : DF} (h : PI X tg e (RT.iRevA X.K (tD f))) : PI X tg e (iD (dRev f)) := h.imp fun σ H R ⟨c, A, n, ρ, Q', E, hf, k⟩ => by
  refine ⟨c, A, n, ρ, _, E, hf, fun v r n1 H1 ⟨ds, e1, h1⟩ f1 o1 => ?_⟩
  have rp := o1.dat E e1
  cases rp with
  | @lst a xs _ h2 h3 =>
    refine ⟨a, xs, rfl, .inl ⟨SqL.of (msk_some h2).2, k ds.reverse _ n1 H1 [(.ref a, .list ds)] h1 f1.fr (fun p hp => by rw [List.mem_singleton.mp hp]; exact .lst h2 h3) fun A n σ H ρ E' => ?_⟩⟩
    have p := E'.pinned (p := (.ref a, .list ds)) (List.mem_singleton.mpr rfl)
    have hx := h3.length
    cases p with
    | @lst _ ys _ g2 g3 =>
      have hl := g3.length
      have hs := SqL.of (K := X.K) (msk_some g2).2
      have hxy : xs.length = ys.length := by rw [hx, hl]
      rw [hxy]
      refine ⟨fun i d hd => ?_, walk_rev.stops H hs |> fun z => by rw [List.length_reverse, ← hl]; exact z⟩
      have hi : i < ds.length := by
        have := (List.getElem?_eq_some_iff.mp hd).1
        rwa [List.length_reverse] at this
      rw [List.getElem?_reverse hi] at hd
      obtain ⟨y, e2, r2⟩ := g3.get hd
      exact ⟨walk_rev.goes i H (by rw [hl]; exact hi) hs, fun x H2 yl => by
        obtain ⟨rfl, e3⟩ := walk_rev.yields i H x H2 (by rw [hl]; exact hi) hs yl
        rw [hl, e2] at e3
        cases e3
        exact ⟨fun _ _ h => h, r2⟩⟩
/-- range(n) -/
def dRng (g : DA) : DI := fun ρ n Q => g ρ n fun rs n1 => ∃ j : Int, rs = [.d (.int j)] ∧ j < 2 ^ 62 ∧ -(2 ^ 62) ≤ j ∧ Q ((List.range j.toNat).map fun i => .int (i : Nat)) n1
theorem piRng {X : Cx} {tg e : Expr} {g : DA} (h : PI X tg e (iRng1 (tDA g))) : PI X tg e (iD (dRng g)) := h.imp fun σ H R ⟨c, A, n, ρ, Q', E, hf, k⟩ => by
  refine ⟨c, A, n, ρ, _, E, hf, fun vs rs n1 H1 ⟨j, e1, h2, h3, h1⟩ f1 o1 => ?_⟩
  subst e1
  cases o1 with
  | cons h _ t =>
    cases h
    cases t
    refine ⟨j, rfl, h3, h2, k _ _ n1 H1 [] h1 f1.fr (fun p hp => by cases hp) fun A n σ H ρ E' => ⟨fun i d hd => ?_, by rw [List.length_map, List.length_range]; exact walk_range.stops H True.intro⟩⟩
    have hi : i < j.toNat := by
      have := (List.getElem?_eq_some_iff.mp hd).1
      rwa [List.length_map, List.length_range] at this
    rw [List.getElem?_map, List.getElem?_range hi] at hd
    cases hd
    exact ⟨walk_range.goes i H hi True.intro, fun x H2 yl => by
      obtain ⟨rfl, rfl⟩ := walk_range.yields i H x H2 hi True.intro yl
      refine ⟨fun _ _ h => h, ?_⟩
      show Rp _ (.int (0 + (i : Nat))) (.int (i : Nat))
      rw [Int.zero_add]
      exact .int _⟩
theorem new_pair {c : EC} {A : Nat → Option Addr} {n : Fam.S} {σ : L2.St} {H : Hp} {ρ : List DV} (E : EnvA c A n σ H ρ) {T : Addr} {x y : V} {d e : PyData} (hT : H T = none) (hx : Rp (msk (c.av n A) H) x d) (hy : Rp (msk (c.av n A) H) y e) : Rp (msk (c.av n A) (upd H T (.tup [x, y]))) (.ref T) (.tuple [d, e]) :=
  tup_new E hT (.cons hx (.cons hy .nil))
theorem same_new {H : Hp} {T : Addr} {o : HO} (hT : H T = none) : ∀ b u, H b = some u → upd H T o b = some u := fun b u h => by
  rw [upd_ne (ne_of_none h hT)]
  exact h
/-- enumerate(list), zip(list, list) -/
def enumD (ds : List PyData) : List PyData := (List.range ds.length).map fun i => .tuple [.int (i : Nat), ds.getD i .none]
def dEnum (g : DA) : DI := fun ρ n Q => g ρ n fun rs n1 => ∃ ds, datsOf rs = some [.list ds] ∧ Q (enumD ds) n1
theorem enumD_len (ds : List PyData) : (enumD ds).length = ds.length := by unfold enumD; rw [List.length_map, List.length_range]
theorem piEnum {X : Cx} {tg e : Expr} {g : DA} (h : PI X tg e (iEnum X.K (tDA g))) : PI X tg e (iD (dEnum g)) := h.imp fun σ H R ⟨c, A, n, ρ, Q', E, hf, k⟩ => by
  refine ⟨c, A, n, ρ, _, E, hf, fun vs rs n1 H1 ⟨ds, e1, h1⟩ f1 o1 => ?_⟩
  have rp := o1.dats E e1
  cases rp with
  | cons r t =>
    cases t
    cases r with
    | @lst a xs _ h2 h3 =>
      refine ⟨a, xs, rfl, SqL.of (msk_some h2).2, k _ _ n1 H1 [(.ref a, .list ds)] h1 f1.fr (fun p hp => by rw [List.mem_singleton.mp hp]; exact .lst h2 h3) fun A n σ H ρ E' => ?_⟩
      have p := E'.pinned (p := (.ref a, .list ds)) (List.mem_singleton.mpr rfl)
      cases p with
      | @lst _ ys _ g2 g3 =>
        have hl := g3.length
        have hs := SqL.of (K := X.K) (msk_some g2).2
        refine ⟨fun i d hd => ?_, walk_enum.stops H hs |> fun z => by rw [enumD_len, ← hl]; exact z⟩
        have hi : i < ds.length := by
          have := (List.getElem?_eq_some_iff.mp hd).1
          rwa [enumD_len] at this
        unfold enumD at hd
        rw [List.getElem?_map, List.getElem?_range hi] at hd
        cases hd
        obtain ⟨y, e2, r2⟩ := g3.get (List.getElem?_eq_getElem hi)
        have hiy : i < ys.length := by rw [hl]; exact hi
        exact ⟨walk_enum.goes i H hiy hs, fun x H2 yl => by
          obtain ⟨T, u, w, rfl, hT, rfl, hu, hw⟩ := walk_enum.yields i H x H2 hiy hs yl
          cases hu
          have hw' : ys[i]? = some w := hw
          rw [e2] at hw'
          cases hw'
          refine ⟨same_new hT, ?_⟩
          show Rp _ _ (.tuple [.int (i : Nat), ds.getD i .none])
          rw [show ds.getD i .none = ds[i] by rw [List.getD_eq_getElem?_getD, List.getElem?_eq_getElem hi]; rfl]
          exact new_pair E' hT (.int _) r2⟩
def zipD (ds es : List PyData) : List PyData := (List.zip ds es).map fun p => .tuple [p.1, p.2]
def dZip (g : DA) : DI := fun ρ n Q => g ρ n fun rs n1 => ∃ ds es, datsOf rs = some [.list ds, .list es] ∧ Q (zipD ds es) n1
theorem piZip {X : Cx} {tg e : Expr} {g : DA} (h : PI X tg e (iZip X.K (tDA g))) : PI X tg e (iD (dZip g)) := h.imp fun σ H R ⟨c, A, n, ρ, Q', E, hf, k⟩ => by
  refine ⟨c, A, n, ρ, _, E, hf, fun vs rs n1 H1 ⟨ds, es, e1, h1⟩ f1 o1 => ?_⟩
  have rp := o1.dats E e1
  cases rp with
  | cons r t =>
    cases t with
    | cons q t =>
      cases t
      cases r with
      | @lst a xs _ h2 h3 =>
        cases q with
        | @lst b zs _ h4 h5 =>
          refine ⟨a, b, xs, zs, rfl, SqL.of (msk_some h2).2, SqL.of (msk_some h4).2, k _ _ n1 H1 [(.ref a, .list ds), (.ref b, .list es)] h1 f1.fr (fun p hp => by
            rcases List.mem_cons.mp hp with e | e
            · rw [e]; exact .lst h2 h3
            · rw [List.mem_singleton.mp e]; exact .lst h4 h5) fun A n σ H ρ E' => ?_⟩
          have p := E'.pinned (p := (.ref a, .list ds)) List.mem_cons_self
          have p' := E'.pinned (p := (.ref b, .list es)) (List.mem_cons_of_mem _ List.mem_cons_self)
          cases p with
          | @lst _ ys _ g2 g3 =>
            cases p' with
            | @lst _ ws _ g4 g5 =>
              have hl := g3.length
              have hl' := g5.length
              have hs : SqL X.K H a ys ∧ SqL X.K H b ws := ⟨SqL.of (K := X.K) (msk_some g2).2, SqL.of (K := X.K) (msk_some g4).2⟩
              have zl : (zipD ds es).length = min ys.length ws.length := by
                unfold zipD
                rw [List.length_map, List.length_zip, hl, hl']
              have wz := walk_zip (K := X.K) (a := a) (b := b) zl
              refine ⟨fun i d hd => ?_, wz.stops H hs⟩
              have hi : i < (zipD ds es).length := (List.getElem?_eq_some_iff.mp hd).1
              have h1 : i < ds.length := by rw [zl] at hi; omega
              have h2 : i < es.length := by rw [zl] at hi; omega
              have ed : d = .tuple [ds[i], es[i]] := by
                unfold zipD at hd
                rw [List.getElem?_map, List.getElem?_eq_getElem (by rw [List.length_zip]; omega), List.getElem_zip] at hd
                exact (Option.some.inj hd).symm
              obtain ⟨y, e2, r2⟩ := g3.get (List.getElem?_eq_getElem h1)
              obtain ⟨y', e2', r2'⟩ := g5.get (List.getElem?_eq_getElem h2)
              exact ⟨wz.goes i H hi hs, fun x H2 yl => by
                obtain ⟨T, u, w, rfl, hT, rfl, hu, hw⟩ := wz.yields i H x H2 hi hs yl
                have hu' : ys[i]? = some u := hu
                have hw' : ws[i]? = some w := hw
                rw [e2] at hu'
                rw [e2'] at hw'
                cases hu'
                cases hw'
                refine ⟨same_new hT, ?_⟩
                rw [ed]
                exact new_pair E' hT r2 r2'⟩
/-- for -/
def dFor (f : DI) (g : DG) (F : DS) : DS := fun E ρ n => f ρ n fun ds n1 => ∃ W : Nat → List DV → Fam.S → Prop, W 0 ρ n1 ∧ (∀ i d ρ n, ds[i]? = some d → W i ρ n → ∃ ρ', g d ρ = some ρ' ∧ F { E with nx := W (i + 1), ct := W (i + 1), bk := E.nx } ρ' n) ∧ ∀ ρ n, W ds.length ρ n → E.nx ρ n
theorem psFor {X : Cx} {tg iter : Expr} {body : List Stmt} {f : DI} {sl : List Nat} {g : DG} {F : DS} {pos : Pos} (hp : PassesOwn (model X.prog X.w) X.A X.env X.xe) (hc : X.calm = true) (hi : PI X tg iter (iD f)) (hg : PG X tg (gD sl g)) (hb : PSs X body (sD F))
    (hs : ∀ x, foldedSetIterable iter X.env x = pure x := by intro _; rfl) : PS X (.For tg iter body [] pos) (sD (dFor f g F)) := (ps_for hp hc hi hg hb hs).imp fun D σ H ⟨c, A, n, ρ, E, e, hf, L⟩ => by
  refine ⟨c, A, n, ρ, _, e, hf, fun ds J n1 H1 l ⟨W, w0, ws, wd⟩ f1 pins wD => ?_⟩
  refine ⟨fun i m σ H => m = ds.length - i ∧ i ≤ ds.length ∧ ∃ A n ρ, EnvA (c.pin l) A n σ H ρ ∧ W i ρ n, ⟨ds.length, by simp, Nat.zero_le _, A, n1, ρ, (e.fr f1).pins pins, w0⟩, ?_⟩
  rintro i m σ H ⟨rfl, hi, A, n, ρ, e', w⟩
  have q := wD A n σ H ρ e'
  by_cases hlt : i < ds.length
  · obtain ⟨go, yl⟩ := q.1 i ds[i] (List.getElem?_eq_getElem hlt)
    refine .inr ⟨go, fun σ H => ∃ A n ρ, EnvA (c.pin l) A n σ H ρ ∧ W (i + 1) ρ n, fun σ' H' w' => ⟨ds.length - (i + 1), by omega, rfl, hlt, w'⟩, fun x H2 y => ?_⟩
    obtain ⟨s, r⟩ := yl x H2 y
    obtain ⟨ρ', e1, h1⟩ := ws i ds[i] ρ n (List.getElem?_eq_getElem hlt) w
    have e2 : EnvA (c.pin l) A n σ H2 ρ := e'.fr (Fr.same e'.g s)
    refine ⟨c.pin l, A, n, ρ, ρ', ds[i], e2, r, e1, fun A' σ' e3 _ _ => ⟨c.pin l, A', n, ρ', _, e3, h1, ⟨?_, ?_, ?_, ?_⟩⟩⟩
    · exact fun A n σ H ρ h e4 => ⟨A, n, ρ, e4, h⟩
    · exact fun v r n H' h fr o => L.rt v r n H' h fr o
    · exact fun A n σ H ρ h e4 => L.nx A n σ H ρ h e4.unpin
    · exact fun A n σ H ρ h e4 => ⟨A, n, ρ, e4, h⟩
  · have z : i = ds.length := by omega
    subst z
    exact .inl ⟨q.2, L.nx A n σ H ρ (wd ρ n w) e'.unpin⟩
/-- while -/
def dWhile (t : DT) (F : DS) : DS := fun E ρ n => ∃ W : Nat → List DV → Fam.S → Prop, (∃ m, W m ρ n) ∧ ∀ m ρ n, W m ρ n → t ρ n fun b n1 => if b = true then ∃ N : List DV → Fam.S → Prop, (∀ ρ n, N ρ n → ∃ m', m' < m ∧ W m' ρ n) ∧ F { E with nx := N, ct := N, bk := E.nx } ρ n1 else E.nx ρ n1
theorem psWhile {X : Cx} {c : Expr} {body : List Stmt} {t : DT} {F : DS} {pos : Pos} (hp : PassesOwn (model X.prog X.w) X.A X.env X.xe) (hc : PT X c (tDT t)) (hb : PSs X body (sD F)) : PS X (.While c body [] pos) (sD (dWhile t F)) := (ps_while hp hc hb).imp fun D σ H ⟨c, A, n, ρ, E, e, ⟨W, ⟨m0, w0⟩, turn⟩, L⟩ => by
  refine ⟨fun m σ H => ∃ A n ρ, EnvA c A n σ H ρ ∧ W m ρ n, ⟨m0, A, n, ρ, e, w0⟩, ?_⟩
  rintro m σ H ⟨A, n, ρ, e, w⟩
  refine ⟨c, A, n, ρ, _, e, turn m ρ n w, fun b n1 H1 h f1 => ?_⟩
  cases b with
  | false => exact L.nx A n1 σ H1 ρ h (e.fr f1)
  | true =>
    obtain ⟨N, hN, hF⟩ := h
    refine ⟨fun σ H => ∃ A n ρ, EnvA c A n σ H ρ ∧ N ρ n, fun σ' H' ⟨A, n, ρ, e', w'⟩ => ?_, c, A, n1, ρ, _, e.fr f1, hF, ⟨?_, L.rt, ?_, ?_⟩⟩
    · obtain ⟨m', l, w2⟩ := hN ρ n w'
      exact ⟨m', l, A, n, ρ, e', w2⟩
    · exact fun A n σ H ρ h e4 => ⟨A, n, ρ, e4, h⟩
    · exact fun A n σ H ρ h e4 => L.nx A n σ H ρ h e4
    · exact fun A n σ H ρ h e4 => ⟨A, n, ρ, e4, h⟩

/-- comprehensions: the new list is kept apart -/
theorem EnvA.side {c : EC} {A : Nat → Option Addr} {n : Fam.S} {σ : L2.St} {H : Hp} {ρ : List DV} (E : EnvA c A n σ H ρ) {D : Addr} {xs : List V} (hD : H D = none) (M : Nat) : ∃ k A', ρ.length ≤ k ∧ M ≤ k ∧ A' k = some D ∧ (∀ j, j ≠ k → A' j = A j) ∧ A k = none ∧ EnvA c A' n σ (upd H D (.lst xs)) ρ := by
  obtain ⟨N, hN⟩ := E.fin
  obtain ⟨Z, kN, kR, kM⟩ : ∃ Z, N ≤ Z ∧ ρ.length ≤ Z ∧ M ≤ Z := ⟨N + ρ.length + M, by omega, by omega, by omega⟩
  have same : ∀ j, j ≠ Z → (fun j => if j = Z then some D else A j) j = A j := fun j z => by show (if j = Z then some D else A j) = _; rw [if_neg z]
  have mine : (fun j => if j = Z then some D else A j) (Z) = some D := by show (if Z = Z then some D else A _) = _; rw [if_pos rfl]
  refine ⟨Z, fun j => if j = Z then some D else A j, kR, kM, mine, same, hN _ kN, ?_⟩
  have s := same_new (o := .lst xs) hD
  have xt : Xt (msk (c.av n A) H) (msk (c.av n fun j => if j = Z then some D else A j) (upd H D (.lst xs))) := fun b o q e => by
    obtain ⟨h1, h2⟩ := msk_some e
    rw [msk_out]
    · exact s b o h2
    · rintro (z | ⟨j, z⟩)
      · exact h1 (.inl z)
      · have z' : (if j = Z then some D else A j) = some b := z
        split at z'
        · cases z'
          rw [hD] at h2
          cases h2
        · exact h1 (.inr ⟨j, z'⟩)
  refine ⟨E.keep.trans (.same s), c.Gm n _ _ H _ E.g xt (fun b o _ _ _ h => s b o h) fun b o _ h => s b o h, fun j a e => ?_, fun j a e => ?_, fun i j a e1 e2 => ?_, fun i x e => ?_, E.len, fun p hp => (E.pin p hp).ex xt, ⟨Z + 1, fun k hk => ?_⟩, fun j a x e1 e2 => ?_⟩
  · have e' : (if j = Z then some D else A j) = some a := e
    split at e'
    · cases e'
      exact (Fresh.of hD).fr E.fr0
    · exact E.new j a e'
  · have e' : (if j = Z then some D else A j) = some a := e
    split at e'
    · cases e'
      exact ⟨⟨_, upd_same, fun ps z => by cases z⟩, fun z => by
        obtain ⟨o, h1, _⟩ := c.Gs n _ H D E.g z
        rw [hD] at h1
        cases h1⟩
    · obtain ⟨⟨o, h1, h2⟩, h3⟩ := E.has j a e'
      exact ⟨⟨o, s a o h1, h2⟩, h3⟩
  · have e1' : (if i = Z then some D else A i) = some a := e1
    have e2' : (if j = Z then some D else A j) = some a := e2
    split at e1' <;> split at e2'
    · rename_i z1 z2
      rw [z1, z2]
    · cases e1'
      obtain ⟨⟨o, h1, _⟩, _⟩ := E.has j D e2'
      rw [hD] at h1
      cases h1
    · cases e2'
      obtain ⟨⟨o, h1, _⟩, _⟩ := E.has i D e1'
      rw [hD] at h1
      cases h1
    · exact E.inj i j a e1' e2'
  · have ni : i ≠ Z := by
      have := (List.getElem?_eq_some_iff.mp e).1
      omega
    show SlOk _ _ _ (if i = Z then some D else A i) _ _
    rw [if_neg ni]
    exact (E.slot i x e).ex xt fun a o _ _ h => s a o h
  · show (if k = Z then some D else A k) = none
    rw [if_neg (by omega)]
    exact hN k (by omega)
  · have nj : j ≠ Z := by
      have := (List.getElem?_eq_some_iff.mp e2).1
      omega
    have e1' : (if j = Z then some D else A j) = some a := e1
    rw [if_neg nj] at e1'
    exact E.mine j a x e1' e2
/-- the side list is no longer kept apart -/
theorem EnvA.unside {c : EC} {A A' : Nat → Option Addr} {n : Fam.S} {σ : L2.St} {H : Hp} {ρ : List DV} {k : Nat} (E : EnvA c A' n σ H ρ) (hk : ρ.length ≤ k) (same : ∀ j, j ≠ k → A' j = A j) (hA : A k = none) : EnvA c A n σ H ρ := by
  have sub : ∀ {j : Nat} {a : Addr}, A j = some a → A' j = some a := fun {j a} e => by
    rw [same j (fun z => by rw [z, hA] at e; cases e)]
    exact e
  have xt : Xt (msk (c.av n A') H) (msk (c.av n A) H) := fun b o _ e => by
    obtain ⟨h1, h2⟩ := msk_some e
    rw [msk_out]
    · exact h2
    · rintro (z | ⟨j, z⟩)
      · exact h1 (.inl z)
      · exact h1 (.inr ⟨j, sub z⟩)
  refine ⟨E.keep, c.Gx E.g xt, fun j a e => E.new j a (sub e), fun j a e => E.has j a (sub e), fun i j a e1 e2 => E.inj i j a (sub e1) (sub e2), fun i x e => ?_, E.len, fun p hp => (E.pin p hp).ex xt, ?_, fun j a x e1 e2 => E.mine j a x (sub e1) e2⟩
  · have ni : i ≠ k := by
      have := (List.getElem?_eq_some_iff.mp e).1
      omega
    rw [← same i ni]
    exact (E.slot i x e).ex xt fun _ _ _ _ h => h
  · obtain ⟨N, hN⟩ := E.fin
    refine ⟨max N (k + 1), fun j hj => ?_⟩
    have h1 := Nat.le_trans (Nat.le_max_left _ _) hj
    have h2 := Nat.le_trans (Nat.le_max_right N (k + 1)) hj
    rw [← same j (by omega)]
    exact hN j h1
def wipeD (ρ : List DV) : List Nat → List DV
  | [] => ρ
  | v :: vs => (wipeD ρ vs).set v .un
theorem wipeD_length (ρ : List DV) : ∀ vs : List Nat, (wipeD ρ vs).length = ρ.length
  | [] => rfl
  | v :: vs => by
    show ((wipeD ρ vs).set v .un).length = _
    rw [List.length_set]
    exact wipeD_length ρ vs
theorem EnvA.wipe {c : EC} {A : Nat → Option Addr} {n : Fam.S} {σ : L2.St} {H : Hp} {ρ : List DV} (E : EnvA c A n σ H ρ) : ∀ vs : List Nat, (∀ j ∈ vs, A j = none) → EnvA c A n (L2.wipe σ vs) H (wipeD ρ vs)
  | [], _ => E
  | v :: vs, hv0 => by
    have E' := EnvA.wipe E vs fun j hj => hv0 j (List.mem_cons_of_mem _ hj)
    refine ⟨E'.keep, E'.g, E'.new, E'.has, E'.inj, fun i x e => ?_, ?_, E'.pin, E'.fin, fun j a x e1 e2 => ?_⟩
    · have e' : ((wipeD ρ vs).set v .un)[i]? = some x := e
      show SlOk _ _ _ _ (((L2.wipe σ vs).set v none)[i]?) x
      by_cases z : v = i
      · subst z
        have hv : v < (wipeD ρ vs).length := by
          have := (List.getElem?_eq_some_iff.mp e').1
          rwa [List.length_set] at this
        rw [List.getElem?_set_self hv] at e'
        cases e'
        exact True.intro
      · rw [List.getElem?_set_ne z] at e' ⊢
        exact E'.slot i x e'
    · show ((wipeD ρ vs).set v .un).length = ((L2.wipe σ vs).set v none).length
      rw [List.length_set, List.length_set]
      exact E'.len
    · have e' : ((wipeD ρ vs).set v .un)[j]? = some x := e2
      by_cases z : v = j
      · subst z
        rw [hv0 v List.mem_cons_self] at e1
        cases e1
      · rw [List.getElem?_set_ne z] at e'
        exact E'.mine j a x e1 e'
theorem wipe_eq {σ σ' : L2.St} {vs : List Nat} (hl : σ'.length = (wipe σ vs).length) (h : ∀ j, j ∉ vs → σ'[j]? = (wipe σ vs)[j]?) : wipe σ' vs = wipe σ vs := by
  apply List.ext_getElem?
  intro j
  by_cases hj : j ∈ vs
  · have none_at : ∀ (τ : L2.St) (vs : List Nat), j ∈ vs → j < τ.length → (wipe τ vs)[j]? = some none := by
      intro τ vs
      induction vs with
      | nil => intro h; cases h
      | cons v vs ih =>
        intro hm hl
        show ((wipe τ vs).set v none)[j]? = some none
        by_cases z : v = j
        · subst z
          exact List.getElem?_set_self (by rw [wipe_length]; exact hl)
        · rw [List.getElem?_set_ne z]
          rcases List.mem_cons.mp hm with e | e
          · exact (z e.symm).elim
          · exact ih e hl
    rw [wipe_length] at hl
    by_cases q : j < σ.length
    · rw [none_at σ' vs hj (by rw [hl]; exact q), none_at σ vs hj q]
    · rw [List.getElem?_eq_none (by rw [wipe_length, hl]; omega), List.getElem?_eq_none (by rw [wipe_length]; omega)]
  · rw [wipe_out hj]
    exact h j hj
def dYes : DT := fun _ n Q => Q true n
abbrev LcOk (g : DG) (t : DT) (h : DF) (vs : List Nat) (ρ : List DV) (Q : DQ) (ds : List PyData) (n1 : Fam.S) : Prop := (vs.all fun j => match ρ[j]? with | some x => !x.isOwn | none => false) = true ∧ ds.length ≤ 100000 ∧ ∃ W : Nat → List PyData → Fam.S → Prop, W 0 [] n1 ∧
  (∀ i d acc n, ds[i]? = some d → W i acc n → ∃ ρ', g d (wipeD ρ vs) = some ρ' ∧ t ρ' n fun b n2 => if b = true then h ρ' n2 fun r n3 => ∃ y, r.dat = some y ∧ W (i + 1) (acc ++ [y]) n3 else W (i + 1) acc n2) ∧ ∀ acc n, W ds.length acc n → Q (.own acc) n
def dLc (f : DI) (g : DG) (t : DT) (h : DF) (vs : List Nat) : DF := fun ρ n Q => f ρ n fun ds n1 => LcOk g t h vs ρ Q ds n1
/-- [h x for x in xs] -/
theorem lcMap {g : DG} {h : DF} {vs : List Nat} {ρ : List DV} {n : Fam.S} {Q : DQ} {ds : List PyData} (out : List PyData) (own : (vs.all fun j => match ρ[j]? with | some x => !x.isOwn | none => false) = true) (big : ds.length ≤ 100000) (hl : out.length = ds.length)
    (step : ∀ (i : Nat) (d y : PyData), ds[i]? = some d → out[i]? = some y → ∃ ρ', g d (wipeD ρ vs) = some ρ' ∧ ∀ R : DQ, (∀ r, r.dat = some y → R r n) → h ρ' n R) (q : Q (.own out) n) : LcOk g (fun _ n Q => Q true n) h vs ρ Q ds n := by
  refine ⟨own, big, fun i acc m => m = n ∧ acc = out.take i, ⟨rfl, rfl⟩, ?_, ?_⟩
  · rintro i d acc m hd ⟨rfl, rfl⟩
    have hi : i < out.length := by rw [hl]; exact (List.getElem?_eq_some_iff.mp hd).1
    obtain ⟨y, ey⟩ : ∃ y, out[i]? = some y := ⟨_, List.getElem?_eq_getElem hi⟩
    obtain ⟨ρ', e1, h1⟩ := step i d y hd ey
    refine ⟨ρ', e1, ?_⟩
    show (if true = true then _ else _)
    rw [if_pos rfl]
    exact h1 _ fun r er => ⟨y, er, rfl, by rw [List.take_succ, ey]; rfl⟩
  · rintro acc m ⟨rfl, rfl⟩
    rw [← hl, List.take_length]
    exact q
/-- [x for x in xs if p x] -/
theorem lcFil {g : DG} {t : DT} {h : DF} {vs : List Nat} {ρ : List DV} {n : Fam.S} {Q : DQ} {ds : List PyData} (p : PyData → Bool) (own : (vs.all fun j => match ρ[j]? with | some x => !x.isOwn | none => false) = true) (big : ds.length ≤ 100000)
    (step : ∀ d, d ∈ ds → ∃ ρ', g d (wipeD ρ vs) = some ρ' ∧ (∀ R : Bool → Fam.S → Prop, R (p d) n → t ρ' n R) ∧ ∀ R : DQ, R (.d d) n → h ρ' n R) (q : Q (.own (ds.filter p)) n) : LcOk g t h vs ρ Q ds n := by
  refine ⟨own, big, fun i acc m => m = n ∧ acc = (ds.take i).filter p, ⟨rfl, rfl⟩, ?_, ?_⟩
  · rintro i d acc m hd ⟨rfl, rfl⟩
    obtain ⟨ρ', e1, h1, h2⟩ := step d (List.mem_of_getElem? hd)
    refine ⟨ρ', e1, h1 _ ?_⟩
    have et : (ds.take (i + 1)).filter p = (ds.take i).filter p ++ if p d = true then [d] else [] := by
      rw [List.take_succ, hd, List.filter_append]
      congr 1
      cases e : p d with
      | true => simp [e]
      | false => simp [e]
    cases e : p d with
    | true =>
      rw [if_pos rfl]
      refine h2 _ ⟨d, rfl, rfl, ?_⟩
      rw [et, e, if_pos rfl]
    | false =>
      rw [if_neg Bool.false_ne_true]
      refine ⟨rfl, ?_⟩
      rw [et, e, if_neg Bool.false_ne_true, List.append_nil]
  · rintro acc m ⟨rfl, rfl⟩
    rw [List.take_length] at *
    exact q
theorem bound_of (vs : List Nat) : ∃ M, ∀ j ∈ vs, j < M := by
  induction vs with
  | nil => exact ⟨0, fun j h => by cases h⟩
  | cons v vs ih =>
    obtain ⟨M, h⟩ := ih
    refine ⟨M + v + 1, fun j hj => ?_⟩
    rcases List.mem_cons.mp hj with e | e
    · omega
    · have := h j e
      omega
theorem lc_le {f : DI} {g : DG} {sl vs : List Nat} {t : DT} {tt : TT} {h : DF} (hsl : ∀ j ∈ sl, j ∈ vs) (ht : ∀ σ H Q, tDT t σ H Q → tt σ H Q) (σ : L2.St) (H : Hp) (Q : VK) (q : tD (dLc f g t h vs) σ H Q) : tLc (iD f) (gD sl g) tt (tD h) vs σ H Q := by
  obtain ⟨c, A, n, ρ, Q', E, hf, k⟩ := q
  refine ⟨c, A, n, ρ, _, E, hf, fun ds J n1 H1 l ⟨nown, big, W, w0, ws, wd⟩ f1 pins wD D hD => ?_⟩
  have E1 := E.fr f1
  obtain ⟨M, hM⟩ := bound_of vs
  obtain ⟨kD, A1, hk, hkM, hA1, sameA, hAk, ES⟩ := E1.side (xs := []) hD M
  have vA1 : ∀ j ∈ vs, A1 j = none := fun j hj => by
    have hb := List.all_eq_true.mp nown j hj
    have nk : j ≠ kD := by
      have := hM j hj
      omega
    cases e : A1 j with
    | none => rfl
    | some a =>
      cases er : ρ[j]? with
      | none =>
        rw [er] at hb
        cases hb
      | some x =>
        have := ES.mine j a x e er
        rw [er] at hb
        have hb' : (!x.isOwn) = true := hb
        rw [this] at hb'
        cases hb'
  have Ep : EnvA (c.pin l) A1 n1 σ (upd H1 D (.lst [])) ρ := ES.pins fun p hp => (pins p hp).ex fun b o q e => by
    obtain ⟨h1, h2⟩ := msk_some e
    have nb : b ≠ D := fun z => by rw [z, hD] at h2; cases h2
    rw [msk_out]
    · rw [upd_ne nb]; exact h2
    · rintro (z | ⟨j, z⟩)
      · exact h1 (.inl z)
      · by_cases e : j = kD
        · rw [e, hA1] at z
          exact nb (Option.some.inj z).symm
        · rw [sameA j e] at z
          exact h1 (.inr ⟨j, z⟩)
  refine ⟨fun i m H2 => m = ds.length - i ∧ i ≤ ds.length ∧ ∃ n vals acc, EnvA (c.pin l) A1 n σ H2 ρ ∧ H2 D = some (.lst vals) ∧ RpA (msk (c.av n A1) H2) vals acc ∧ acc.length ≤ i ∧ W i acc n ∧ Stay (c.P n1) (c.P n) H1 H2, ⟨ds.length, by simp, Nat.zero_le _, n1, [], [], Ep, upd_same, .nil, Nat.le_refl _, w0, .same fun b o e => by rw [upd_ne (ne_of_none e hD)]; exact e⟩, ?_⟩
  rintro i m H2 ⟨rfl, hi, n2, vals, acc, e2, hv, rv, la, w, kp⟩
  have qD := wD A1 n2 σ H2 ρ e2
  have nD : ¬ c.P n2 D := fun p => (e2.nP hA1) (c.PB p)
  have avD : ∀ n, c.av n A1 D := fun n => .inr ⟨kD, hA1⟩
  by_cases hlt : i < ds.length
  · obtain ⟨go, yl⟩ := qD.1 i ds[i] (List.getElem?_eq_getElem hlt)
    refine .inr ⟨go, fun H2 => ∃ n vals acc, EnvA (c.pin l) A1 n σ H2 ρ ∧ H2 D = some (.lst vals) ∧ RpA (msk (c.av n A1) H2) vals acc ∧ acc.length ≤ i + 1 ∧ W (i + 1) acc n ∧ Stay (c.P n1) (c.P n) H1 H2, fun H' w' => ⟨ds.length - (i + 1), by omega, rfl, hlt, w'⟩, fun x H3 y => ?_⟩
    obtain ⟨s3, r3⟩ := yl x H3 y
    obtain ⟨ρ', eg, et⟩ := ws i ds[i] acc n2 (List.getElem?_eq_getElem hlt) w
    have f3 : Fr (c.pin l) A1 n2 n2 H2 H3 := Fr.same e2.g s3
    have e3 : EnvA (c.pin l) A1 n2 (L2.wipe σ vs) H3 (wipeD ρ vs) := (e2.fr f3).wipe vs vA1
    refine ⟨c.pin l, A1, n2, _, ρ', ds[i], e3, r3, eg, fun A' σ' e4 l4 o4 => ⟨wipe_eq l4 fun j hj => (o4 j fun z => hj (hsl j z)).1, ?_⟩⟩
    have back : ∀ {n5 : Fam.S} {H5 : Hp} {v : V} {r : DV}, FrV (c.pin l) A' n2 n5 H3 H5 v r → EnvA (c.pin l) A1 n5 σ H5 ρ ∧ H5 D = some (.lst vals) ∧ RpA (msk (c.av n5 A1) H5) vals acc ∧ Stay (c.P n1) (c.P n5) H1 H5 := fun {n5 H5 v r} f5 => by
      have g5 : Fr (c.pin l) A1 n2 n5 H3 H5 := ⟨f5.1, (c.pin l).Gmk f5.g fun i a e => ⟨i, by rw [(o4 i fun z => by rw [vA1 i (hsl i z)] at e; cases e).2]; exact e⟩⟩
      have f25 := f3.trans g5
      exact ⟨e2.fr f25, f25.k D _ nD (fun ps z => by cases z) hv, rv.ex f25.msk, kp.trans f25.1⟩
    refine ht σ' H3 _ ⟨c.pin l, A', n2, ρ', _, e4, et, fun b n4 H4 hb f4 => ?_⟩
    cases b with
    | false =>
      obtain ⟨b1, b2, b3, b4⟩ := back f4
      exact ⟨n4, vals, acc, b1, b2, b3, Nat.le_succ_of_le la, hb, b4⟩
    | true =>
      refine ⟨c.pin l, A', n4, ρ', _, e4.fr f4, hb, fun v r n5 H5 ⟨y, ey, hw⟩ f5 o5 => ?_⟩
      obtain ⟨b1, b2, b3, b4⟩ := back (f4.trans f5)
      have ry := o5.dat (e4.fr f4) ey
      have ll : vals.length < sizeLine := big_lt (by rw [rv.length]; omega)
      refine ⟨vals, b2, ll, ?_⟩
      have ry1 : Rp (msk (c.av n5 A1) H5) v y := ry.ex fun b o _ e => by
        obtain ⟨h1, h2⟩ := msk_some e
        rw [msk_out]
        · exact h2
        · rintro (z | ⟨j, z⟩)
          · exact h1 (.inl z)
          · by_cases hj : j ∈ sl
            · rw [vA1 j (hsl j hj)] at z
              cases z
            · exact h1 (.inr ⟨j, by rw [(o4 j hj).2]; exact z⟩)
      have mk : msk (c.av n5 A1) (upd H5 D (.lst (vals ++ [v]))) = msk (c.av n5 A1) H5 := by
        funext b
        by_cases z : c.av n5 A1 b
        · unfold msk
          rw [if_pos z, if_pos z]
        · rw [msk_out z, msk_out z, upd_ne (fun e => z (by rw [e]; exact avD n5))]
      have m1 := b1.mut (r := .un) (u := .lst (vals ++ [v])) hA1 b2 (.inl ⟨_, rfl⟩) (fun ps z => by cases z) True.intro (fun z => by omega)
      rw [List.set_eq_of_length_le hk] at m1
      refine ⟨n5, vals ++ [v], acc ++ [y], m1, upd_same, by rw [mk]; exact b3.app (.one ry1), by rw [List.length_append]; show acc.length + 1 ≤ _; omega, hw, fun b o q e => ?_⟩
      rw [upd_ne (fun z => by rw [z, hD] at e; cases e)]
      exact b4 b o q e
  · have z : i = ds.length := by omega
    subst z
    refine .inl ⟨qD.2, ?_⟩
    have up : ∀ {b : Addr}, c.av n2 A b → c.av n2 A1 b := fun {b} z => z.imp id fun ⟨j, e⟩ => ⟨j, by rw [sameA j fun z => by rw [z, hAk] at e; cases e]; exact e⟩
    have fE : FrV c A n1 n2 H1 H2 (.ref D) (.own acc) := ⟨kp, c.Gx e2.g fun b o _ e => by
      obtain ⟨h1, h2⟩ := msk_some e
      rw [msk_out]
      · exact h2
      · rintro (z | z)
        · exact h1 (up z)
        · cases z
          exact h1 (avD n2)⟩
    have nd : ¬ c.av n2 A D := by
      rintro (z | ⟨j, z⟩)
      · exact e2.nP hA1 z
      · have nj : j ≠ kD := fun e => by
          rw [e, hAk] at z
          cases z
        exact nj (e2.inj j kD D (by rw [sameA j nj]; exact z) hA1)
    refine k _ _ n2 H2 (wd acc n2 w) (f1.trans fE) ⟨D, vals, rfl, ⟨(Fresh.of hD).fr f1, nd⟩, hv, rv.ex fun b o _ e => ?_⟩
    obtain ⟨h1, h2⟩ := msk_some e
    rw [msk_out]
    · exact h2
    · rintro ((z | ⟨j, z⟩) | z)
      · exact h1 (.inl z)
      · by_cases e : j = kD
        · rw [e, hAk] at z
          cases z
        · exact h1 (.inr ⟨j, by rw [sameA j e]; exact z⟩)
      · exact h1 (by rw [z]; exact avD n2)
end

/-! ### data readings: defs, operators, built-ins -/
section
variable [Fam] [Tabz]
theorem VsOk.get {t : V} {B : Addr → Prop} {H H' : Hp} : ∀ {vs : List V} {rs : List DV} {i : Nat} {r : DV}, VsOk t B H H' vs rs → rs[i]? = some r → ∃ v, vs[i]? = some v ∧ VOk t B H v H' r ∧ r.cold = r
  | _, _, _, _, .nil, e => by simp at e
  | _, _, 0, _, .cons h ec _, e => by
    simp at e
    subst e
    exact ⟨_, rfl, h, ec⟩
  | _, _, i + 1, r, .cons _ _ t, e => by
    obtain ⟨v, h1, h2⟩ := VsOk.get (i := i) (r := r) t (by simpa using e)
    exact ⟨v, by simpa using h1, h2⟩
theorem VsOk.length {t : V} {B : Addr → Prop} {H H' : Hp} : ∀ {vs : List V} {rs : List DV}, VsOk t B H H' vs rs → vs.length = rs.length
  | _, _, .nil => rfl
  | _, _, .cons _ _ t => by
    show _ + 1 = _ + 1
    rw [VsOk.length t]
section
variable {P : Program} {w : World} {K : PySem.W.Frag} {mg : Str → Option Value} {base : Heap}
theorem okD {x qual : Str} {st : Stmt} {f : Addr} {fd : FuncData} {N ps : List Str} {k : Nat} {F : DS} {m : DM} (Fn : Fun K x qual st f fd) (S : FnScope N ps (defScope st)) (len : ∀ rs n Q, m rs n Q → plainR rs ∧ rs.length = ps.length)
    (body : ∀ (cdv : Value) (A : Around) (outer : List Env) (s : Shared) (H : Hp) (E : XK), Room k (A.deeper (PyProof.Rows.envOfC qual (defScope st) s.heap.objs.size f cdv)) → PSs (cxOf CX0 P w K mg base N qual (defScope st) f cdv A outer s H E).nox (defBody st) (sD F))
    (data : ∀ rs n Q, m rs n Q → F { nx := fun _ n => Q (.d .none) n, rt := Q } (rs ++ List.replicate (N.length - rs.length) .un) n) : FnOk P w K mg base CX0 (k + 1) f fd ps (spD m) := by
  refine Fn.ok S (fun vs H Q E ⟨c, n, rs, Q', h0, hn, g, pn, ok, hm, _⟩ => ?_) (fun cdv A outer s H vs Q E hr ⟨c, n, rs, Q', h0, hn, g, pn, ok, hm, kk⟩ => ⟨_, body cdv A outer s H E hr, c, A0, n, _, { nx := fun _ n => Q' (.d .none) n, rt := Q' }, ?_, data rs n Q' hm, ?_⟩)
  · rw [ok.length]
    exact (len _ _ _ hm).2
  · subst h0
    subst hn
    have xt : Xt (msk (c.B c.n0) c.H0) (msk (c.av c.n0 A0) c.H0) := by
      rw [EC.B_A0]
      exact fun _ _ _ h => h
    refine ⟨.refl, c.Gx g xt, fun i a e => (by cases e), fun i a e => (by cases e), fun i j a e => (by cases e), fun i y e => ?_, ?_, fun p hp => (by rw [pn] at hp; cases hp), ⟨0, fun _ _ => rfl⟩, fun i a y e => (by cases e)⟩
    · by_cases hi : i < rs.length
      · rw [List.getElem?_append_left hi] at e
        obtain ⟨v, h1, h2, h3⟩ := ok.get e
        have hs : (L2.start N vs)[i]? = some (some v) := by
          unfold L2.start
          rw [List.getElem?_append_left (by rw [List.length_map, ok.length]; exact hi), List.getElem?_map, h1]
          rfl
        rw [hs]
        cases y with
        | un => exact h2.elim
        | raw v => exact h2.elim
        | tape => 
          refine ⟨?_, h2.2⟩
          rw [show v = c.t from h2.1]
        | d z => exact ⟨v, rfl, Rp.ex h2 xt⟩
        | own ds => cases h3
        | dic kvs => 
          rcases (len _ _ _ hm).1 _ (List.mem_of_getElem? e) with ⟨d, q⟩ | q <;> cases q
      · rw [List.getElem?_append_right (by omega), List.getElem?_replicate] at e
        split at e
        · cases e
          exact True.intro
        · cases e
    · unfold L2.start
      rw [List.length_append, List.length_append, List.length_map, List.length_replicate, List.length_replicate, ok.length]
  · subst h0
    subst hn
    refine ⟨fun A n σ H' ρ h e => ?_, fun v r n H' h fr o => kk v r n H' h fr o, fun A n σ H ρ h e => h.elim, fun A n σ H ρ h e => h.elim⟩
    exact kk .non _ n H' h e.fr0 Rp.non
end
theorem yes_le (σ : L2.St) (H : Hp) (Q : Bool → Hp → Prop) (q : tDT dYes σ H Q) : tYes σ H Q := by
  obtain ⟨c, A, n, ρ, Q', E, hf, k⟩ := q
  exact k true n H hf (.refl E.g)
theorem set_le2 {i : Nat} {f : DF} {te : TE} (h : ∀ σ H Q, tD f σ H Q → te σ H Q) (D : Ends) (σ : L2.St) (H : Hp) (q : sD (dSet i f) D σ H) : tAsg te (gName i) D σ H := by
  obtain ⟨c, A, n, ρ, E, e, hf, L⟩ := q
  refine h _ _ _ ⟨c, A, n, ρ, _, e, hf, fun v r n1 H1 ⟨hi, h1⟩ f1 o1 => ?_⟩
  obtain ⟨A', e'⟩ := e.put f1 o1 hi
  exact L.nx _ _ _ _ _ h1 e'
/-- ints -/
def opI (g : Int → Int → PyData) : PyData → PyData → Option DV
  | .int a, .int b => some (.d (g a b))
  | _, _ => none
theorem r2I {g : Int → Int → V} {g' : Int → Int → PyData} (h : ∀ i j, datC (g i j) = some (g' i j)) : R2D (rI0 g) (opI g') := by
  intro t B H v w a b z Q hB ra rb e k
  cases ra <;> cases rb <;> cases e
  exact ⟨_, _, rfl, rfl, k _ H (fun _ _ h => h) (datC_rp (h _ _))⟩
def opIc (C : Int → Int → Bool) (g : Int → Int → PyData) : PyData → PyData → Option DV
  | .int a, .int b => if C a b = true then some (.d (g a b)) else none
  | _, _ => none
theorem r2Ic {C : Int → Int → Prop} {Cb : Int → Int → Bool} (hC : ∀ i j, Cb i j = true → C i j) {g : Int → Int → V} {g' : Int → Int → PyData} (h : ∀ i j, datC (g i j) = some (g' i j)) : R2D (rI C g) (opIc Cb g') := by
  intro t B H v w a b z Q hB ra rb e k
  cases ra <;> cases rb <;> simp only [opIc, reduceCtorEq] at e
  split at e
  · cases e
    exact ⟨_, _, rfl, rfl, hC _ _ (by assumption), k _ H (fun _ _ h => h) (datC_rp (h _ _))⟩
  · cases e
abbrev opAdd := opI fun i j => .int (i + j)
abbrev opSub := opI fun i j => .int (i - j)
abbrev opLt := opI fun i j => .bool (decide (i < j))
abbrev opLe := opI fun i j => .bool (decide (i ≤ j))
abbrev opGt := opI fun i j => .bool (decide (j < i))
abbrev opGe := opI fun i j => .bool (decide (j ≤ i))
theorem r2Add : R2D (rI0 fun i j => .int (i + j)) opAdd := r2I fun _ _ => rfl
theorem r2Sub : R2D (rI0 fun i j => .int (i - j)) opSub := r2I fun _ _ => rfl
theorem r2Lt : R2D (rI0 fun i j => .bl (decide (i < j))) opLt := r2I fun _ _ => rfl
theorem r2Le : R2D (rI0 fun i j => .bl (decide (i ≤ j))) opLe := r2I fun _ _ => rfl
theorem r2Gt : R2D (rI0 fun i j => .bl (decide (j < i))) opGt := r2I fun _ _ => rfl
theorem r2Ge : R2D (rI0 fun i j => .bl (decide (j ≤ i))) opGe := r2I fun _ _ => rfl
instance (i j : Int) : Decidable (CMulW i j) := inferInstanceAs (Decidable (_ < _))
instance (i j : Int) : Decidable (CDivW i j) := inferInstanceAs (Decidable (_ ∧ _))
abbrev opMul := opIc (fun i j => decide (CMulW i j)) fun i j => .int (i * j)
theorem r2Mul : R2D (rI CMulW fun i j => .int (i * j)) opMul := r2Ic (fun _ _ h => of_decide_eq_true h) fun _ _ => rfl
abbrev opDiv := opIc (fun i j => decide (CDivW i j)) fun i j => .int (i / j)
theorem r2Div : R2D (rI CDivW fun i j => .int (i / j)) opDiv := r2Ic (fun _ _ h => of_decide_eq_true h) fun _ _ => rfl
abbrev opMod := opIc (fun _ j => decide (0 < j)) fun i j => .int (i % j)
theorem r2Mod : R2D (rI (fun _ j => 0 < j) fun i j => .int (i % j)) opMod := r2Ic (fun _ _ h => of_decide_eq_true h) fun _ _ => rfl
instance (i j : Int) : Decidable (CPow i j) := inferInstanceAs (Decidable (_ ∧ _))
abbrev opPow := opIc (fun i j => decide (CPow i j)) fun i j => .int (i ^ j.toNat)
theorem r2Pow : R2D (rI CPow fun i j => .int (i ^ j.toNat)) opPow := r2Ic (fun _ _ h => of_decide_eq_true h) fun _ _ => rfl
def opNeg : PyData → Option DV
  | .int a => some (.d (.int (-a)))
  | _ => none
theorem r1Neg : R1D (rU fun i => .int (-i)) opNeg := by
  intro t B H v a z Q hB ra e k
  cases ra <;> cases e
  exact ⟨_, rfl, k _ H (fun _ _ h => h) (Rp.int _)⟩
/-- ==, != of what is no list: None, truths, ints, texts -/
def sEq : PyData → PyData → Option Bool
  | .none, .none => some true
  | .none, .int _ => some false
  | .int _, .none => some false
  | .none, .bool _ => some false
  | .bool _, .none => some false
  | .none, .str _ => some false
  | .str _, .none => some false
  | .int a, .int b => some (decide (a = b))
  | .bool a, .bool b => some (decide (a = b))
  | .str a, .str b => some (decide (a = b))
  | _, _ => none
def opEq : PyData → PyData → Option DV := fun a b => (sEq a b).map fun c => .d (.bool c)
def opNe : PyData → PyData → Option DV := fun a b => (sEq a b).map fun c => .d (.bool (!c))
theorem sEq_ok {M : Hp} {v w : V} {a b : PyData} {c : Bool} (ra : Rp M v a) (rb : Rp M w b) (e : sEq a b = some c) : scal v w = true ∧ decide (v = w) = c := by
  cases ra <;> cases rb <;> cases e <;> refine ⟨rfl, ?_⟩ <;> first | rfl | (simp)
theorem r2Eq : R2D rEq opEq := by
  intro t B H v w a b z Q hB ra rb e k
  unfold opEq at e
  cases q : sEq a b with
  | none => rw [q] at e; cases e
  | some c =>
    rw [q] at e
    cases e
    obtain ⟨h1, h2⟩ := sEq_ok ra rb q
    refine ⟨h1, k _ H (fun _ _ h => h) ?_⟩
    rw [h2]
    exact Rp.bl c
theorem r2Ne : R2D rNe opNe := by
  intro t B H v w a b z Q hB ra rb e k
  unfold opNe at e
  cases q : sEq a b with
  | none => rw [q] at e; cases e
  | some c =>
    rw [q] at e
    cases e
    obtain ⟨h1, h2⟩ := sEq_ok ra rb q
    refine ⟨h1, k _ H (fun _ _ h => h) ?_⟩
    rw [h2]
    exact Rp.bl _
/-- ==, !=, in of data of any depth -/
def opEqD : PyData → PyData → Option DV := fun a b => if SeqAt.shaped a = true ∧ SeqAt.shaped b = true then some (.d (.bool (PyData.eqv a b))) else none
def opNeD : PyData → PyData → Option DV := fun a b => if SeqAt.shaped a = true ∧ SeqAt.shaped b = true then some (.d (.bool (!PyData.eqv a b))) else none
theorem up_msk {K : PySem.W.Frag} {B : Addr → Prop} {H : Hp} {v : V} {a : PyData} (r : Rp (msk B H) v a) (hs : SeqAt.shaped a = true) : Dp K H v a := (r.ex msk_le).dp (Bool.and_eq_true_iff.mp hs).1
theorem r2EqD {K : PySem.W.Frag} : R2D (rEqD K) opEqD := by
  intro t B H v w a b z Q hB ra rb e k
  unfold opEqD at e
  split at e
  · rename_i h
    cases e
    exact ⟨a, b, up_msk ra h.1, up_msk rb h.2, h.1, h.2, k _ H (fun _ _ h => h) (Rp.bl _)⟩
  · cases e
theorem r2NeD {K : PySem.W.Frag} : R2D (rNeD K) opNeD := by
  intro t B H v w a b z Q hB ra rb e k
  unfold opNeD at e
  split at e
  · rename_i h
    cases e
    exact ⟨a, b, up_msk ra h.1, up_msk rb h.2, h.1, h.2, k _ H (fun _ _ h => h) (Rp.bl _)⟩
  · cases e
def opIn (neg : Bool) : PyData → PyData → Option DV := fun a b => match b with
  | .list ds => if SeqAt.shaped a = true ∧ SeqAt.shaped (.list ds) = true then some (.d (.bool (if neg then !ds.any fun z => PyData.eqv z a else ds.any fun z => PyData.eqv z a))) else none
  | _ => none
theorem r2In {K : PySem.W.Frag} : R2D (rInD K) (opIn false) := by
  intro t B H v w a b z Q hB ra rb e k
  cases rb <;> simp only [opIn, reduceCtorEq] at e
  split at e
  · rename_i h1 h2 h
    cases e
    exact ⟨a, _, up_msk ra h.1, (Rp.lst h1 h2 |> fun r => up_msk r h.2), h.1, h.2, k _ H (fun _ _ h => h) (Rp.bl _)⟩
  · cases e
theorem r2NotIn {K : PySem.W.Frag} : R2D (rNotInD K) (opIn true) := by
  intro t B H v w a b z Q hB ra rb e k
  cases rb <;> simp only [opIn, reduceCtorEq] at e
  split at e
  · rename_i h1 h2 h
    cases e
    exact ⟨a, _, up_msk ra h.1, (Rp.lst h1 h2 |> fun r => up_msk r h.2), h.1, h.2, k _ H (fun _ _ h => h) (Rp.bl _)⟩
  · cases e
def isN : PyData → Bool
  | .none => true
  | _ => false
def opIsN (neg : Bool) : PyData → PyData → Option DV := fun a b => match b with
  | .none => some (.d (.bool (if neg then !isN a else isN a)))
  | _ => none
theorem isN_ok {M : Hp} {v : V} {a : PyData} (r : Rp M v a) : decide (v = .non) = isN a := by
  cases r <;> rfl
theorem r2IsN : R2D (fun x y H Q => y = .non ∧ Q (.bl (decide (x = .non))) H) (opIsN false) := by
  intro t B H v w a b z Q hB ra rb e k
  cases rb <;> cases e
  refine ⟨rfl, ?_⟩
  rw [isN_ok ra]
  exact k _ H (fun _ _ h => h) (Rp.bl _)
theorem r2NotN : R2D (fun x y H Q => y = .non ∧ Q (.bl (!decide (x = .non))) H) (opIsN true) := by
  intro t B H v w a b z Q hB ra rb e k
  cases rb <;> cases e
  refine ⟨rfl, ?_⟩
  rw [isN_ok ra]
  exact k _ H (fun _ _ h => h) (Rp.bl _)
/-- items -/
theorem RpA.atI {M : Hp} {vs : List V} {ds : List PyData} {i : Int} {d : PyData} (r : RpA M vs ds) (e : atI ds i = some d) : ∃ v, atI vs i = some v ∧ Rp M v d := by
  unfold L2.atI at e ⊢
  rw [r.length]
  cases q : ixN ds.length i with
  | none => rw [q] at e; cases e
  | some j =>
    rw [q] at e
    exact r.get e
def opIxL : PyData → PyData → Option DV
  | .list ds, .int i => (atI ds i).map .d
  | _, _ => none
def opIxT : PyData → PyData → Option DV
  | .tuple ds, .int i => (atI ds i).map .d
  | _, _ => none
theorem r2IxL {K : PySem.W.Frag} : R2D (rIxL K) opIxL := by
  intro t B H v w a b z Q hB ra rb e k
  cases ra <;> cases rb <;> simp only [opIxL, reduceCtorEq] at e
  rename_i h1 h2 i
  cases q : atI _ i with
  | none => rw [q] at e; cases e
  | some d =>
    rw [q] at e
    cases e
    obtain ⟨u, e1, r1⟩ := h2.atI q
    exact ⟨_, _, i, u, rfl, rfl, SqL.of (msk_some h1).2, e1, k _ H (fun _ _ h => h) r1⟩
theorem r2IxT {K : PySem.W.Frag} : R2D (rIxT K) opIxT := by
  intro t B H v w a b z Q hB ra rb e k
  cases ra <;> cases rb <;> simp only [opIxT, reduceCtorEq] at e
  rename_i h1 h2 i
  cases q : atI _ i with
  | none => rw [q] at e; cases e
  | some d =>
    rw [q] at e
    cases e
    obtain ⟨u, e1, r1⟩ := h2.atI q
    exact ⟨_, _, i, u, rfl, rfl, SqT.of (msk_some h1).2, e1, k _ H (fun _ _ h => h) r1⟩
/-- a new list of what lists hold -/
theorem new_own {t : V} {B : Addr → Prop} {H : Hp} {p : Addr} {vs : List V} {ds : List PyData} (hB : ∀ b, B b → ∃ o, H b = some o) (hp : H p = none) (h : RpA (msk B H) vs ds) : VOk t B H (.ref p) (upd H p (.lst vs)) (.own ds) := by
  refine ⟨p, vs, rfl, ⟨.of hp, fun z => by obtain ⟨o, e⟩ := hB p z; rw [hp] at e; cases e⟩, upd_same, h.ex fun b o _ e => ?_⟩
  obtain ⟨h1, h2⟩ := msk_some e
  have ne : b ≠ p := ne_of_none h2 hp
  rw [msk_out (fun z => z.elim h1 ne), upd_ne ne]
  exact h2
theorem new_tup {t : V} {B : Addr → Prop} {H : Hp} {p : Addr} {vs : List V} {ds : List PyData} (hB : ∀ b, B b → ∃ o, H b = some o) (hp : H p = none) (h : RpA (msk B H) vs ds) : VOk t B H (.ref p) (upd H p (.tup vs)) (.d (.tuple ds)) := by
  refine .tup (by rw [msk_out fun z => by obtain ⟨o, e⟩ := hB p z; rw [hp] at e; cases e]; exact upd_same) (h.ex fun b o _ e => ?_)
  obtain ⟨h1, h2⟩ := msk_some e
  rw [msk_out h1, upd_ne (ne_of_none h2 hp)]
  exact h2
def opCat : PyData → PyData → Option DV
  | .list a, .list b => if a.length + b.length ≤ 200000 then some (.own (a ++ b)) else none
  | _, _ => none
theorem r2Cat : R2D rCat opCat := by
  intro t B H v w a b z Q hB ra rb e k
  cases ra <;> cases rb <;> simp only [opCat, reduceCtorEq] at e
  rename_i h1 h2 _ _ _ h3 h4
  split at e
  · rename_i hz
    cases e
    refine ⟨_, _, _, _, rfl, rfl, (msk_some h1).2, (msk_some h3).2, ?_, fun p hp => k _ _ (same_new hp) (new_own hB hp (h2.app h4))⟩
    rw [h2.length, h4.length]
    exact Nat.le_trans hz (by decide)
  · cases e
/-- built-ins over data -/
def bLen : List PyData → Option DV
  | [.list ds] => some (.d (.int (ds.length : Nat)))
  | [.tuple ds] => some (.d (.int (ds.length : Nat)))
  | _ => none
theorem rsLen {K : PySem.W.Frag} : RsD (fun xs H Q => ∃ p ys, xs = [.ref p] ∧ (SqL K H p ys ∨ SqT K H p ys) ∧ Q (.int ys.length) H) bLen := by
  intro t B H vs as z Q hB r e k
  cases r with
  | nil => cases e
  | cons r t =>
    cases t with
    | cons _ _ => cases r <;> cases e
    | nil =>
      cases r <;> cases e
      · rename_i h1 h2
        refine ⟨_, _, rfl, .inl (SqL.of (msk_some h1).2), k _ H (fun _ _ h => h) ?_⟩
        rw [h2.length]
        exact Rp.int _
      · rename_i h1 h2
        refine ⟨_, _, rfl, .inr (SqT.of (msk_some h1).2), k _ H (fun _ _ h => h) ?_⟩
        rw [h2.length]
        exact Rp.int _
def bList : List PyData → Option DV
  | [.list ds] => some (.own ds)
  | [.tuple ds] => some (.own ds)
  | _ => none
theorem rsList {K : PySem.W.Frag} : RsD (fun xs H Q => ∃ p ys, xs = [.ref p] ∧ (SqL K H p ys ∨ SqT K H p ys) ∧ ∀ l, H l = none → Q (.ref l) (upd H l (.lst ys))) bList := by
  intro t B H vs as z Q hB r e k
  cases r with
  | nil => cases e
  | cons r t =>
    cases t with
    | cons _ _ => cases r <;> cases e
    | nil =>
      cases r <;> cases e
      · rename_i h1 h2
        exact ⟨_, _, rfl, .inl (SqL.of (msk_some h1).2), fun l hl => k _ _ (same_new hl) (new_own hB hl h2)⟩
      · rename_i h1 h2
        exact ⟨_, _, rfl, .inr (SqT.of (msk_some h1).2), fun l hl => k _ _ (same_new hl) (new_own hB hl h2)⟩
/-- the ints of a list -/
def intsOf : List PyData → Option (List Int)
  | [] => some []
  | .int i :: ds => (intsOf ds).map (i :: ·)
  | _ => none
theorem ints_of {M : Hp} : ∀ {vs : List V} {ds : List PyData} {ns : List Int}, RpA M vs ds → intsOf ds = some ns → vs = ns.map V.int
  | _, _, _, .nil, e => by cases e; rfl
  | _, _, ns, .cons r t, e => by
    cases r <;> simp only [intsOf, reduceCtorEq] at e
    cases q : intsOf _ with
    | none => rw [q] at e; cases e
    | some ms =>
      rw [q] at e
      cases e
      rw [ints_of t q]
      rfl
def bSum : List PyData → Option DV
  | [.list ds] => (intsOf ds).map fun ns => .d (.int ns.sum)
  | _ => none
theorem rsSum {K : PySem.W.Frag} : RsD (rSum K) bSum := by
  intro t B H vs as z Q hB r e k
  cases r with
  | nil => cases e
  | cons r t =>
    cases t with
    | cons _ _ => cases r <;> cases e
    | nil =>
      cases r <;> simp only [bSum, reduceCtorEq] at e
      rename_i a xs ds h1 h2
      cases q : intsOf ds with
      | none => rw [q] at e; cases e
      | some ns =>
        rw [q] at e
        cases e
        refine ⟨_, ns, rfl, ?_, k _ H (fun _ _ h => h) (Rp.int _)⟩
        rw [← ints_of h2 q]
        exact SqL.of (msk_some h1).2
def b2I (g : Int → Int → Int) : List PyData → Option DV
  | [.int a, .int b] => some (.d (.int (g a b)))
  | _ => none
theorem rs2I {g : Int → Int → Int} : RsD (fun xs H Q => ∃ i j, xs = [.int i, .int j] ∧ Q (.int (g i j)) H) (b2I g) := by
  intro t B H vs as z Q hB r e k
  cases r with
  | nil => cases e
  | cons r t =>
    cases t with
    | nil => cases r <;> cases e
    | cons q t =>
      cases t with
      | cons _ _ => cases r <;> cases q <;> cases e
      | nil =>
        cases r <;> cases q <;> cases e
        exact ⟨_, _, rfl, k _ H (fun _ _ h => h) (Rp.int _)⟩
abbrev bMax2 := b2I fun i j => if j > i then j else i
abbrev bMin2 := b2I fun i j => if j < i then j else i
def bAbs : List PyData → Option DV
  | [.int a] => some (.d (.int (if a < 0 then -a else a)))
  | _ => none
theorem rsAbs : RsD (fun xs H Q => ∃ i, xs = [.int i] ∧ Q (.int (if i < 0 then -i else i)) H) bAbs := by
  intro t B H vs as z Q hB r e k
  cases r with
  | nil => cases e
  | cons r t =>
    cases t with
    | cons _ _ => cases r <;> cases e
    | nil =>
      cases r <;> cases e
      exact ⟨_, rfl, k _ H (fun _ _ h => h) (Rp.int _)⟩

/-! ### contracts -/
def plainOf : List DV → Option (List PyData)
  | [] => some []
  | .d x :: rs => (plainOf rs).map (x :: ·)
  | _ => none
theorem plainOf_R : ∀ {rs : List DV} {ds : List PyData}, plainOf rs = some ds → plainR rs ∧ rs.length = ds.length
  | [], _, e => by cases e; exact ⟨fun r h => (by cases h), rfl⟩
  | .d x :: rs, ds, e => by
    unfold plainOf at e
    cases q : plainOf rs with
    | none => rw [q] at e; cases e
    | some es =>
      rw [q] at e
      cases e
      obtain ⟨h1, h2⟩ := plainOf_R q
      refine ⟨fun r h => ?_, by show rs.length + 1 = es.length + 1; rw [h2]⟩
      rcases List.mem_cons.mp h with z | z
      · exact .inl ⟨x, z⟩
      · exact h1 r z
  | .un :: _, _, e => by cases e
  | .tape :: _, _, e => by cases e
  | .raw _ :: _, _, e => by cases e
  | .own _ :: _, _, e => by cases e
  | .dic _ :: _, _, e => by cases e
/-- a def of k data that tells what g tells -/
def mP (k : Nat) (g : List PyData → Option DV) : DM := fun rs n Q => ∃ ds, plainOf rs = some ds ∧ ds.length = k ∧ ∃ z, g ds = some z ∧ Q z n
theorem lP {k : Nat} {g : List PyData → Option DV} : ∀ rs n Q, mP k g rs n Q → plainR rs ∧ rs.length = k := fun rs n Q ⟨ds, e, h, _⟩ => ⟨(plainOf_R e).1, (plainOf_R e).2.trans h⟩
/-- a def of a tape and k data -/
def tapeOf : List DV → Option (List PyData)
  | .tape :: rs => plainOf rs
  | _ => none
def mT (k : Nat) (g : List PyData → Fam.S → DQ → Prop) : DM := fun rs n Q => ∃ ds, tapeOf rs = some ds ∧ ds.length = k ∧ g ds n Q
theorem lT {k : Nat} {g : List PyData → Fam.S → DQ → Prop} : ∀ rs n Q, mT k g rs n Q → plainR rs ∧ rs.length = k + 1 := fun rs n Q ⟨ds, e, h, _⟩ => by
  cases rs with
  | nil => cases e
  | cons r rs =>
    cases r <;> first | cases e; done | skip
    have e' : plainOf rs = some ds := e
    obtain ⟨h1, h2⟩ := plainOf_R e'
    refine ⟨fun r hr => ?_, by show rs.length + 1 = _; rw [h2, h]⟩
    rcases List.mem_cons.mp hr with z | z
    · exact .inr z
    · exact h1 r z
/-- a list, a dict of one's own is told -/
theorem psRetOwn {X : Cx} {i : Nat} {e : Expr} {pos : Pos} (h : PE X e (tVar i)) : PS X (.Return (some e) pos) (sD fun E ρ n => ∃ r, ρ[i]? = some r ∧ r.isOwn = true ∧ E.rt r n) := (ps_ret h).imp fun D σ H ⟨c, A, n, ρ, E, e, ⟨r, h1, h2, h3⟩, L⟩ => by
  have q := e.slot i _ h1
  have xt : ∀ a, A i = some a → Xt (msk (c.av n A) H) (msk (fun b => c.B n b ∨ b = a) H) := fun a ha b o _ e' => by
    obtain ⟨g1, g2⟩ := msk_some e'
    rw [msk_out]
    · exact g2
    · rintro (z | z)
      · exact g1 (.inl z)
      · exact g1 (.inr ⟨i, by rw [z]; exact ha⟩)
  cases r with
  | un => cases h2
  | tape => cases h2
  | raw v => cases h2
  | d x => cases h2
  | own ds =>
    obtain ⟨a, vs, g1, g2, g3, g4⟩ := q
    refine ⟨_, g2, L.rt _ _ n H h3 ⟨e.keep, c.Gx e.g fun b o _ e' => ?_⟩ ⟨a, vs, rfl, ⟨e.new i a g1, e.nP g1⟩, g3, g4.ex (xt a g1)⟩⟩
    obtain ⟨k1, k2⟩ := msk_some e'
    rw [msk_out]
    · exact k2
    · rintro ((z | ⟨_, z⟩) | z)
      · exact k1 (.inl z)
      · cases z
      · cases z
        exact k1 (.inr ⟨i, g1⟩)
  | dic kvs =>
    obtain ⟨a, vs, g1, g2, g3, g4⟩ := q
    refine ⟨_, g2, L.rt _ _ n H h3 ⟨e.keep, c.Gx e.g fun b o _ e' => ?_⟩ ⟨a, vs, rfl, ⟨e.new i a g1, e.nP g1⟩, g3, g4.ex (xt a g1)⟩⟩
    obtain ⟨k1, k2⟩ := msk_some e'
    rw [msk_out]
    · exact k2
    · rintro ((z | ⟨_, z⟩) | z)
      · exact k1 (.inl z)
      · cases z
      · cases z
        exact k1 (.inr ⟨i, g1⟩)
/-- a, b = e1, e2 -/
def dPar (i j : Nat) (g : DA) : DS := fun E ρ n => g ρ n fun rs n1 => ∃ x y, rs = [.d x, .d y] ∧ i < ρ.length ∧ j < ρ.length ∧ E.nx ((ρ.set i (.d x)).set j (.d y)) n1
theorem psPar {X : Cx} {i j : Nat} {g : DA} {st : Stmt} (h : PS X st (tPar i j (tDA g))) : PS X st (sD (dPar i j g)) := h.imp fun D σ H ⟨c, A, n, ρ, E, e, hf, L⟩ => by
  refine ⟨c, A, n, ρ, _, e, hf, fun vs rs n1 H1 ⟨x, y, er, hi, hj, h1⟩ f1 o1 => ?_⟩
  subst er
  cases o1 with
  | @cons v _ vs _ hv _ t =>
    cases t with
    | @cons w _ ws _ hw _ t =>
      cases t
      refine ⟨v, w, rfl, ?_⟩
      have e1 := (e.fr f1).pins (l := [(w, y)]) fun p hp => by rw [List.mem_singleton.mp hp]; exact hw
      have e2 := e1.putD (i := i) (v := v) (d := x) hv hi
      have hw2 := e2.pinned (p := (w, y)) (List.mem_singleton.mpr rfl)
      exact L.nx _ _ _ _ _ h1 (e2.unpin.putD (i := j) hw2 (by rw [List.length_set]; exact hj))
def dPar3 (i j l : Nat) (g : DA) : DS := fun E ρ n => g ρ n fun rs n1 => ∃ x y z, rs = [.d x, .d y, .d z] ∧ i < ρ.length ∧ j < ρ.length ∧ l < ρ.length ∧ E.nx (((ρ.set i (.d x)).set j (.d y)).set l (.d z)) n1
theorem psPar3 {X : Cx} {i j l : Nat} {g : DA} {st : Stmt} (h : PS X st (tPar3 i j l (tDA g))) : PS X st (sD (dPar3 i j l g)) := h.imp fun D σ H ⟨c, A, n, ρ, E, e, hf, L⟩ => by
  refine ⟨c, A, n, ρ, _, e, hf, fun vs rs n1 H1 ⟨x, y, z, er, hi, hj, hl, h1⟩ f1 o1 => ?_⟩
  subst er
  cases o1 with
  | @cons v _ vs _ hv _ t =>
    cases t with
    | @cons w _ ws _ hw _ t =>
      cases t with
      | @cons u _ us _ hu _ t =>
        cases t
        refine ⟨v, w, u, rfl, ?_⟩
        have e1 := (e.fr f1).pins (l := [(w, y), (u, z)]) fun p hp => by
          rcases List.mem_cons.mp hp with q | q
          · rw [q]; exact hw
          · rw [List.mem_singleton.mp q]; exact hu
        have e2 := e1.putD (i := i) (v := v) (d := x) hv hi
        have hw2 := e2.pinned (p := (w, y)) List.mem_cons_self
        have e3 := e2.putD (i := j) hw2 (by rw [List.length_set]; exact hj)
        have hu2 := e3.pinned (p := (u, z)) (List.mem_cons_of_mem _ List.mem_cons_self)
        exact L.nx _ _ _ _ _ h1 (e3.unpin.putD (i := l) hu2 (by rw [List.length_set, List.length_set]; exact hl))
end

/-! ### sorted(xs, key=lambda row: (row[3], row[7])), and (-row[3], row[7]) -/
def lamArgs (p : Pos) : Arguments := { posonlyargs := [], args := [{ arg := "row", annotation := none, pos := p }], vararg := none, kwonlyargs := [], kw_defaults := [], kwarg := none, defaults := [] }
def lamScope : Scope := { kind := .function, names := [("row", .local)], isGenerator := false, isCoroutine := false }
def rowAt (k : Int) (p1 p2 p3 : Pos) : Expr := .Subscript (.Name "row" p1) (.Constant (.int k) 0 p2) p3
def keyE (neg : Bool) (p1 p2 p3 p4 p5 p6 p7 p8 : Pos) : Expr := .Tuple [if neg then .UnaryOp .USub (rowAt 3 p1 p2 p3) p4 else rowAt 3 p1 p2 p3, rowAt 7 p5 p6 p7] 0 p8
section
variable {prog : Program} {w : World} {A : Around} {E : Value → Shared → Prop} {s : Shared}
theorem rowAt_ok {q : Str} {L f c' t : Addr} {m : Str → Option Value} {items : Array Value} {k : Int} {j : Nat} {x : Value} {p1 p2 p3 : Pos} {Q : Value → Shared → Prop} (hn : s.heap.Ns L m) (hm : m "row" = some (.ref t)) (ht : PyProof.Rows.IsTup s.heap t items) (h0 : 0 ≤ k) (h63 : k < 2 ^ 63)
    (hj : seqIndex? k items.size = some j) (hx : items[j]? = some x) (h : ∀ tk, Q x { s with toks := tk }) : wpAny (model prog w) A (eval (rowAt k p1 p2 p3) (PySem.W.envX q lamScope L f (.ref c') [])) Q E s := by
  refine PyProof.Rows.Subscript_ (wpAny_Name (wpAny_loadName_local rfl rfl hn hm ?_) (by decide))
  refine wpAny_Constant_int ?_
  exact PyProof.Rows.subscriptTail_builtinR (x := x) (PyProof.Rows.IsTup.typeIs ht) PySem.F.slot_tuple_getitem.lookup
    (PyProof.Rows.getItem_tuple (j := j) (Q := fun r s' => r = x ∧ Q r s') ht (by omega) h63 hj hx ⟨rfl, h _⟩) rfl
def key1 (neg : Bool) (i : Int) : Int := if neg = true then -i else i
theorem keyE_ok {neg : Bool} {q : Str} {L f c' t : Addr} {m : Str → Option Value} {items : Array Value} {i j : Int} {ti tj : Tok} {p1 p2 p3 p4 p5 p6 p7 p8 : Pos} {Q : Value → Shared → Prop} (hn : s.heap.Ns L m) (hm : m "row" = some (.ref t)) (ht : PyProof.Rows.IsTup s.heap t items) (hz : items.size = 8)
    (h3 : items[3]? = some (.int i ti)) (h7 : items[7]? = some (.int j tj))
    (h : ∀ tk u, Q (.ref s.heap.objs.size) { s with heap := s.heap.push { cls := .type "tuple", data := .seq #[.int (key1 neg i) u, .int j tj] }, toks := tk }) :
    wpAny (model prog w) A (eval (keyE neg p1 p2 p3 p4 p5 p6 p7 p8) (PySem.W.envX q lamScope L f (.ref c') [])) Q E s := by
  refine wpAny_Tuple_spliced ?_
  have last : ∀ {tk : Nat} {R : List Value → Shared → Prop}, (∀ tk', R [.int j tj] { s with toks := tk' }) →
      wpAny (model prog w) A (spliced (backTo p8 (starEach [rowAt 7 p5 p6 p7] (PySem.W.envX q lamScope L f (.ref c') [])))) R E { s with toks := tk } := fun {tk R} hR => by
    show wpAny _ _ (spliced ((false, eval (rowAt 7 p5 p6 p7) (PySem.W.envX q lamScope L f (.ref c') [])) :: backTo p8 (starEach [] (PySem.W.envX q lamScope L f (.ref c') [])))) _ _ _
    refine Calls.spliced_cons (rowAt_ok (s := { s with toks := tk }) (j := 7) hn hm ht (by decide) (by decide) (by rw [hz]; rfl) h7 fun tk2 => ?_)
    exact Calls.spliced_nil (hR _)
  cases neg with
  | true =>
    show wpAny _ _ (spliced ((false, eval (.UnaryOp .USub (rowAt 3 p1 p2 p3) p4) (PySem.W.envX q lamScope L f (.ref c') [])) :: backTo p8 (starEach [rowAt 7 p5 p6 p7] (PySem.W.envX q lamScope L f (.ref c') [])))) _ _ _
    refine Calls.spliced_cons (PyProof.Rows.UnaryOp_ (rowAt_ok (j := 3) hn hm ht (by decide) (by decide) (by rw [hz]; rfl) h3 fun tk1 => PyProof.Rows.neg_int ?_))
    exact last fun tk' => ⟨by show 2 ≤ sizeLine; decide, h _ _⟩
  | false =>
    show wpAny _ _ (spliced ((false, eval (rowAt 3 p1 p2 p3) (PySem.W.envX q lamScope L f (.ref c') [])) :: backTo p8 (starEach [rowAt 7 p5 p6 p7] (PySem.W.envX q lamScope L f (.ref c') [])))) _ _ _
    refine Calls.spliced_cons (rowAt_ok (j := 3) hn hm ht (by decide) (by decide) (by rw [hz]; rfl) h3 fun tk1 => ?_)
    exact last fun tk' => ⟨by show 2 ≤ sizeLine; decide, h _ _⟩
/-- the lambda, called with a row -/
theorem lam_key {neg : Bool} {q : Str} {f c' t : Addr} {pm ctv : Value} {items : Array Value} {i j : Int} {ti tj : Tok} {p0 p1 p2 p3 p4 p5 p6 p7 p8 : Pos} (hd : A.depth < recursionLimit) (hlim : s.heap.NoLimit)
    (hf : s.heap.get? f = some (PySem.W.kla_obj "<lambda>" q (lamArgs p0) (keyE neg p1 p2 p3 p4 p5 p6 p7 p8) lamScope [] pm c' ctv)) (hrec : s.heap.CodeRec (.ref c') q) (ht : PyProof.Rows.IsTup s.heap t items) (hz : items.size = 8)
    (h3 : items[3]? = some (.int i ti)) (h7 : items[7]? = some (.int j tj)) :
    wpAny (model prog w) A (call (.ref f) [.ref t]) (PySem.W.KeyPure (.tuple [.int (key1 neg i), .int j]) s) (fun _ _ => False) s := by
  refine wpAny_call (PySem.W.kla_callFunE hd hf rfl rfl rfl rfl hrec ?_)
  have hb : bindArgs (PySem.W.kla_fn "<lambda>" q (lamArgs p0) (keyE neg p1 p2 p3 p4 p5 p6 p7 p8) lamScope [] pm (.ref c') ctv) ⟨[.ref t], []⟩ = pure [(("row" : Str), Value.ref t)] := by first | rfl | with_unfolding_all rfl | kernel_rfl
  rw [hb]
  refine wpAny_pure (wpAny_newFunctionEnv (scope := lamScope) (by decide +kernel) (fun y hy => by rw [List.mem_singleton.mp hy]; rfl) (fun h₁ hns hsb => ⟨hlim.fresh _ hsb, ?_⟩) rfl)
  show codeAny _ _ (.expr (keyE neg p1 p2 p3 p4 p5 p6 p7 p8) (PySem.W.envX q lamScope s.heap.objs.size f (.ref c') [])) _ _
  have kp : ∀ b o, s.heap.get? b = some o → h₁.get? b = some o := fun b o e => hsb.extBut b o (Nat.ne_of_lt (Heap.lt_size e)) (Heap.get?_push_of_some _ e)
  refine PySem.W.kla_codeExpr ?_
  refine keyE_ok (items := items) (i := i) (j := j) hns rfl (ht.keeps kp) hz h3 h7 fun tk u => ?_
  have kp2 : ∀ b o, s.heap.get? b = some o → (h₁.push { cls := .type "tuple", data := .seq #[.int (key1 neg i) u, .int j tj] } : Heap).get? b = some o := fun b o e => Heap.get?_push_of_some _ (kp b o e)
  refine ⟨_, _, rfl, kp2, ?_⟩
  exact Reads.tuple (Heap.get?_push_size _ rfl) rfl rfl (.cons (.int _ _) (.cons (.int _ _) .nil))
end
def rowLe (neg : Bool) (kk : V → Int × Int) : V → V → Bool := fun p q => decide (key1 neg (kk p).1 < key1 neg (kk q).1 ∨ (key1 neg (kk p).1 = key1 neg (kk q).1 ∧ (kk p).2 ≤ (kk q).2))
theorem extN_L {K : PySem.W.Frag} {H H' : Hp} {a : Addr} {xs : List V} (e : LamX.ExtN H H') (h : SqL K H a xs) : SqL K H' a xs := by
  rcases h with (h | ⟨o, h⟩) | h
  · exact .inl (.inl (e _ _ h fun ps z => by cases z))
  · exact .inl (.inr ⟨o, e _ _ h fun ps z => by cases z⟩)
  · exact .inr h
theorem extN_T {K : PySem.W.Frag} {H H' : Hp} {a : Addr} {xs : List V} (e : LamX.ExtN H H') (h : SqT K H a xs) : SqT K H' a xs := by
  rcases h with (h | ⟨o, h⟩) | h
  · exact .inl (.inl (e _ _ h fun ps z => by cases z))
  · exact .inl (.inr ⟨o, e _ _ h fun ps z => by cases z⟩)
  · exact .inr h
theorem each_of : ∀ {xs : List V} {us : List Value}, Vals xs us → PySem.W.EachIs (fun v x => RelV x v) us xs
  | _, _, .nil => .nil
  | _, _, .cons r t => .cons r (each_of t)
theorem vals_of : ∀ {us : List Value} {xs : List V}, PySem.W.EachIs (fun v x => RelV x v) us xs → Vals xs us
  | _, _, .nil => .nil
  | _, _, .cons r t => .cons r (vals_of t)
/-- what a row's lambda asks of the rows, what is told -/
def tSortLam (K : PySem.W.Frag) (T : List (Addr × Str)) (neg : Bool) (te : TE) : TE := fun σ H Q => te σ H fun x H1 => ∃ (a : Addr) (xs : List V) (kk : V → Int × Int), x = .ref a ∧ SqL K H1 a xs ∧
  (∀ y ∈ xs, ∃ t ws, y = .ref t ∧ SqT K H1 t ws ∧ ws.length = 8 ∧ ws[3]? = some (.int (kk y).1) ∧ ws[7]? = some (.int (kk y).2)) ∧ LamX.Tabs T H1 ∧
  ∀ H2 p, LamX.ExtN H1 H2 → LamX.Tabs T H2 → H2 p = none → Q (.ref p) (upd H2 p (.lst (xs.mergeSort (rowLe neg kk))))
theorem pe_sortLam {X : Cx} {T : List (Addr × Str)} {c P : Addr} {neg : Bool} {e : Expr} {te : TE} {p pos lpos kpos p0 p1 p2 p3 p4 p5 p6 p7 p8 : Pos} (hg : Gl X "sorted") (hm : X.mg "sorted" = none) (TB : LamX.TabB X.base X.mg c P) (hcode : X.env.code = .ref c)
    (hmT : (P, X.env.qual ++ "<lambda>") ∈ T) (hu : ∀ p ∈ T, p.1 = P → p.2 = X.env.qual ++ "<lambda>") (hr : Room 1 X.A) (he : PE X e te)
    (hst : backTo pos (starEach [e] X.env) = (false, eval e X.env) :: backTo pos (starEach [] X.env) := by rfl) (hpl : (backTo pos (starEach [e] X.env)).any (·.1) = false := by rfl) :
    PE X (.Call (.Name "sorted" p) [e] [⟨some "key", .Lambda (lamArgs p0) (keyE neg p1 p2 p3 p4 p5 p6 p7 p8) lamScope lpos, kpos⟩] pos) (tSortLam X.K T neg te) := by
  refine ⟨fun pins s σ H Q I h => ?_⟩
  refine wpAny_Call_Name_kw (ld_blt I hg hm (by decide +kernel : bootBuiltins "sorted" = some (.builtin "sorted")) ?_ (by decide) (by decide))
  refine PyProof.Rows.callWith_kw (kws := [⟨some "key", .Lambda (lamArgs p0) (keyE neg p1 p2 p3 p4 p5 p6 p7 p8) lamScope lpos, kpos⟩]) ?_ hst hpl rfl rfl
  rw [hst]
  refine Calls.spliced_cons (thn (he.run pins s σ H _ I h) fun u s1 ⟨x, H1, I1, r1, q1⟩ => Calls.spliced_nil ?_)
  obtain ⟨a, xs, kk, rfl, hs, hk, hT, q⟩ := q1
  obtain rfl : u = Value.ref a := r1
  show wpAny _ _ (evalAll ((do let v ← eval (.Lambda (lamArgs p0) (keyE neg p1 p2 p3 p4 p5 p6 p7 p8) lamScope lpos) X.env; standAt pos; pure v) :: [])) _ _ s1
  refine wpAny_evalAll_cons (wpAny_bind (LamX.lam_make2 I1 TB hcode hmT hu hT rfl (fun y hy e => by rw [List.mem_singleton.mp hy] at e; cases e) fun f c' pm ctv H2 s2 I2 eN T2 hf hfn hfr hco => wpAny_bind (wpAny_standAt (wpAny_pure ?_))))
  refine wpAny_evalAll_nil ?_
  show wpAny _ _ (call (.builtin "sorted") [.ref a] [("key", .ref f)]) _ _ s2
  obtain ⟨its, rv, hl, hz⟩ := I2.list (extN_L eN hs)
  have hun := hr.un
  have hdp := hr.dp
  have hrec : s2.heap.CodeRec (.ref c') (X.env.qual ++ "<lambda>") := by
    obtain ⟨⟨oc, vs, t, h1, h2, h3⟩, _⟩ := I2.hok c' _ hco
    exact ⟨c', oc, vs, t, rfl, h1, h2, h3⟩
  refine PySem.W.sorted_key_data (β := V) (R := fun v x => RelV x v) (b := false) (bs := xs) (vs := its) (fun y => .tuple [.int (key1 neg (kk y).1), .int (kk y).2]) hl.isList (each_of rv) ?_ ?_ hz ?_ (PyProof.Rows.ksk_s1 _ _) (fun _ => PyProof.Rows.ksk_l1 _ _) (fun x => PyProof.Rows.ksk_t1 f x) ?_ ?_
  · intro d hd d' hd'
    obtain ⟨y, _, rfl⟩ := List.mem_map.mp hd
    obtain ⟨y', _, rfl⟩ := List.mem_map.mp hd'
    rfl
  · refine .inl fun d hd => ?_
    obtain ⟨y, _, rfl⟩ := List.mem_map.mp hd
    exact ⟨_, _, rfl⟩
  · intro y hy
    have e : (PyData.tuple [.int (key1 neg (kk y).1), .int (kk y).2]).depth ≤ 10 := by
      simp [PyData.depth, PyData.depthAll]
    omega
  · intro v y hv hy h tk keep
    obtain ⟨t, ws, rfl, ht, hlen, h3, h7⟩ := hk y hy
    obtain rfl : v = Value.ref t := hv
    obtain ⟨its2, rv2, pl, hz2⟩ := I2.tuple (extN_T eN ht)
    obtain ⟨u3, e3, ru3⟩ := rv2.get h3
    obtain ⟨u7, e7, ru7⟩ := rv2.get h7
    obtain ⟨t3, rfl⟩ := ru3
    obtain ⟨t7, rfl⟩ := ru7
    exact lam_key (s := { s2 with heap := h, toks := tk }) (items := its2.toArray) (by show X.A.depth < _; omega) (I2.nolimit.keeps keep) (keep _ _ hf) (hrec.keeps keep) (pl.keeps keep) (by rw [List.size_toArray, ← rv2.length, hlen]) (by simpa using e3) (by simpa using e7)
  · intro out cc h' tk keep fresh hget hlen each
    have e2 : PySem.W.dataLe false (fun y : V => PyData.tuple [.int (key1 neg (kk y).1), .int (kk y).2]) = rowLe neg kk := PySem.W.dataLe_ii (fun y => key1 neg (kk y).1) (fun y => (kk y).2)
    rw [e2] at each
    refine ⟨.ref _, upd H2 (s2.heap.objs.size + 1) (.lst (xs.mergeSort (rowLe neg kk))), I2.laid (t' := tk) keep (Nat.le_succ _) ⟨?_, out, cc, vals_of each, hget⟩, rfl, q H2 _ eN T2 (I2.hok.fresh (Nat.le_succ _))⟩
    rw [List.length_mergeSort]
    exact hz

/-! ### data readings: slices, tuples joined, sorting, calls by keywords -/
section
variable [Fam] [Tabz]
theorem _root_.L2.Room.units65 {k : Nat} {A : Around} (r : Room k A) : A.units + 65 < cLine := by have := r.un; omega
def truD : PyData → Option Bool
  | .none => some false
  | .bool b => some b
  | .int i => some (i != 0)
  | .list ds => some (!ds.isEmpty)
  | .tuple ds => some (!ds.isEmpty)
  | _ => none
def dTru (f : DF) : DT := fun ρ n Q => f ρ n fun r n1 => ∃ a, r.dat = some a ∧ ∃ b, truD a = some b ∧ Q b n1
theorem RpA.empty {M : Hp} {vs : List V} {ds : List PyData} (r : RpA M vs ds) : vs.isEmpty = ds.isEmpty := by
  cases r <;> rfl
theorem ptTru {X : Cx} {a : Expr} {f : DF} (ha : PE X a (tD f)) (he : ∀ whole, isTrue a X.env whole = (do let v ← whole; standAt a.pos; holding [v] (truthy v))) : PT X a (tDT (dTru f)) := (pt_truth ha he).imp fun σ H Q ⟨c, A, n, ρ, Q', E, hf, k⟩ => by
  refine ⟨c, A, n, ρ, _, E, hf, fun v r n1 H1 ⟨a, ea, b, eb, hq⟩ f1 o1 => ⟨b, ?_, k b n1 H1 hq f1.fr⟩⟩
  have rp := o1.dat E ea
  cases rp with
  | non => cases eb; exact rfl
  | bl b => cases eb; exact rfl
  | int i => cases eb; exact rfl
  | str x => cases eb
  | hnd a => cases eb
  | lst h1 h2 =>
    cases eb
    exact .inl ⟨_, SqL.of (msk_some h1).2, by rw [h2.empty]⟩
  | tup h1 h2 =>
    cases eb
    exact .inr (.inl ⟨_, SqT.of (msk_some h1).2, by rw [h2.empty]⟩)
/-- what is told, as data -/
theorem pdCold {X : Cx} {e : Expr} {f : DF} (h : PE X e (tD f)) : PE X e (tD fun ρ n Q => f ρ n fun r n1 => Q r.cold n1) := h.imp fun σ H Q ⟨c, A, n, ρ, Q', E, hf, k⟩ => ⟨c, A, n, ρ, _, E, hf, fun v r n1 H1 hq f1 o1 => k v _ n1 H1 hq ⟨f1.1, c.Gx f1.2 (by cases r <;> first | exact fun _ _ _ h => h | exact hide_xt)⟩ o1.cold⟩
/-- two comparisons -/
def dChain (o1 o2 : PyData → PyData → Option DV) (f g h : DF) : DF := fun ρ n Q => f ρ n fun x n1 => g ρ n1 fun y n2 => ∃ a, x.dat = some a ∧ ∃ b, y.dat = some b ∧ ∃ k, o1 a b = some (.d (.bool k)) ∧ if k = true then h ρ n2 fun w n3 => ∃ c, w.dat = some c ∧ ∃ z, o2 b c = some z ∧ Q z n3 else Q (.d (.bool false)) n2
theorem chain_le {r r' : R2} {op op' : PyData → PyData → Option DV} {f g h : DF} (h1 : R2D r op) (h2 : R2D r' op') (σ : L2.St) (H : Hp) (Q : VK) (q : tD (dChain op op' f g h) σ H Q) : tChain r r' (tD f) (tD g) (tD h) σ H Q := by
  obtain ⟨c, A, n, ρ, Q', E, hf, k⟩ := q
  refine ⟨c, A, n, ρ, _, E, hf, fun v x n1 H1 hg f1 o1 => ⟨c, A, n1, ρ, _, E.fr f1, hg, fun w y n2 H2 hz f2 o2 => ?_⟩⟩
  obtain ⟨a, ea, b, eb, kb, ek, hq⟩ := hz
  have E2 := (E.fr f1).fr f2
  have ra := (o1.later E f1 f2).dat E ea
  have rb := o2.dat (E.fr f1) eb
  refine h1 c.t (c.av n2 A) H2 v w a b _ _ (fun b hb => (E2.there hb).imp fun o h => h.1) ra rb ek fun u H3 s o => ?_
  cases o
  refine ⟨kb, rfl, ?_⟩
  have f3 : Fr c A n2 n2 H2 H3 := Fr.same E2.g s
  cases kb with
  | false => exact k _ _ n2 H3 hq ((f1.trans f2).trans f3) (Rp.bl false)
  | true =>
    refine ⟨c, A, n2, ρ, _, E2.fr f3, hq, fun w' r n3 H4 ⟨cc, ec, z, ez, h5⟩ f4 o4 => ?_⟩
    have E4 := (E2.fr f3).fr f4
    refine h2 c.t (c.av n3 A) H4 w w' b cc z Q (fun b hb => (E4.there hb).imp fun o h => h.1) ((rb.ex f3.msk).ex f4.msk) (o4.dat (E2.fr f3) ec) ez fun u H5 s5 o5 => ?_
    have f5 := FrV.same (H' := H5) E4.g s5 o5
    exact k u z n3 H5 h5 (((f1.trans f2).trans f3).trans (f4.trans f5)) (VOk.mono E (((f1.trans f2).trans f3).trans f4) o5)
theorem pdChain {X : Cx} {o o' : CmpOp} {r r' : R2} {op op' : PyData → PyData → Option DV} {a b e : Expr} {f g h : DF} {pos : Pos} (h1 : R2D r op) (h2 : R2D r' op') (ho : OpR X (compareOp o) r) (ho' : OpR X (compareOp o') r') (ha : PE X a (tD f)) (hb : PE X b (tD g)) (hc : PE X e (tD h)) (hm : lastMarks [o, o'] [b, e] = false := by with_unfolding_all rfl) :
    PE X (.Compare a [o, o'] [b, e] pos) (tD (dChain op op' f g h)) := (pe_chain ho ho' ha hb hc hm).imp (chain_le h1 h2)
theorem ptChain {X : Cx} {o o' : CmpOp} {r r' : R2} {op op' : PyData → PyData → Option DV} {a b e : Expr} {f g h : DF} {pos : Pos} (h1 : R2D r op) (h2 : R2D r' op') (ho : OpR X (compareOp o) r) (ho' : OpR X (compareOp o') r') (ha : PE X a (tD f)) (hb : PE X b (tD g)) (hc : PE X e (tD h)) (hm : lastMarks [o, o'] [b, e] = false := by with_unfolding_all rfl) :
    PT X (.Compare a [o, o'] [b, e] pos) (tDT (dTest (dChain op op' f g h))) := (pt_chain ho ho' ha hb hc hm).imp fun σ H Q q => test_le (chain_le h1 h2) σ H Q q
/-- slices -/
abbrev DO := List DV → Fam.S → (Option Int → Fam.S → Prop) → Prop
def tDO (f : DO) : TO := fun σ H Q => ∃ (c : EC) (A : Nat → Option Addr) (n : Fam.S) (ρ : List DV) (Q' : Option Int → Fam.S → Prop), EnvA c A n σ H ρ ∧ f ρ n Q' ∧ ∀ o n' H', Q' o n' → Fr c A n n' H H' → Q o H'
theorem _root_.L2.PO.imp {X : Cx} {e : Option Expr} {t t' : TO} (h : PO X e t) (i : ∀ σ H Q, t' σ H Q → t σ H Q) : PO X e t' := ⟨fun pins s σ H Q I q => h.run pins s σ H Q I (i σ H Q q)⟩
def dONone : DO := fun _ n Q => Q none n
def dOSome (f : DF) : DO := fun ρ n Q => f ρ n fun r n1 => ∃ i, r = .d (.int i) ∧ Q (some i) n1
theorem poNone {X : Cx} : PO X none (tDO dONone) := po_none.imp fun σ H Q ⟨c, A, n, ρ, Q', E, hf, k⟩ => k none n H hf (.refl E.g)
theorem poSome {X : Cx} {e : Expr} {f : DF} (h : PE X e (tD f)) : PO X (some e) (tDO (dOSome f)) := (po_some h).imp fun σ H Q ⟨c, A, n, ρ, Q', E, hf, k⟩ =>
  ⟨c, A, n, ρ, _, E, hf, fun v r n1 H1 ⟨i, e, hq⟩ f1 o1 => by
    subst e
    cases o1
    exact ⟨i, rfl, k _ n1 H1 hq f1.fr⟩⟩
def cutD (ds : List PyData) (lo hi : Option Int) : List PyData := (ds.drop (HT.sIx ds.length 0 lo)).take (HT.sIx ds.length ds.length hi - HT.sIx ds.length 0 lo)
theorem RpA.cut {M : Hp} {vs : List V} {ds : List PyData} (r : RpA M vs ds) (lo hi : Option Int) : RpA M (cutV vs lo hi) (cutD ds lo hi) := by
  unfold cutV cutD
  rw [r.length]
  exact (r.drop _).take _
def SlD (r : V → Option Int → Option Int → Hp → VK → Prop) (op : PyData → Option Int → Option Int → Option DV) : Prop := ∀ (t : V) (B : Addr → Prop) (H : Hp) (v : V) (a : PyData) (lo hi : Option Int) (z : DV) (Q : VK), (∀ b, B b → ∃ o, H b = some o) → Rp (msk B H) v a → op a lo hi = some z →
  (∀ u H', (∀ p o, H p = some o → H' p = some o) → VOk t B H u H' z → Q u H') → r v lo hi H Q
def dSl (op : PyData → Option Int → Option Int → Option DV) (f : DF) (g h : DO) : DF := fun ρ n Q => f ρ n fun x n1 => g ρ n1 fun lo n2 => h ρ n2 fun hi n3 => ∃ a, x.dat = some a ∧ ∃ z, op a lo hi = some z ∧ Q z n3
theorem pdSl {X : Cx} {r : V → Option Int → Option Int → Hp → VK → Prop} {op : PyData → Option Int → Option Int → Option DV} {e : Expr} {lo hi : Option Expr} {f : DF} {g h : DO} {p2 pos : Pos} (hd : SlD r op) (hr : SlR X r) (he : PE X e (tD f)) (hl : PO X lo (tDO g)) (hu : PO X hi (tDO h)) : PE X (.Subscript e (.Slice lo hi none p2) pos) (tD (dSl op f g h)) := (pe_slice hr he hl hu).imp fun σ H Q ⟨c, A, n, ρ, Q', E, hf, k⟩ => by
  refine ⟨c, A, n, ρ, _, E, hf, fun v x n1 H1 h1 f1 o1 => ⟨c, A, n1, ρ, _, E.fr f1, h1, fun lo n2 H2 h2 f2 => ⟨c, A, n2, ρ, _, (E.fr f1).fr f2, h2, fun hi n3 H3 ⟨a, ea, z, ez, h3⟩ f3 => ?_⟩⟩⟩
  have E3 := ((E.fr f1).fr f2).fr f3
  refine hd c.t (c.av n3 A) H3 v a lo hi z Q (fun b hb => (E3.there hb).imp fun o h => h.1) (((o1.later E f1 f2).later E (f1.trans f2) f3).dat E ea) ez fun u H' s o => ?_
  exact k u z n3 H' h3 (((f1.trans f2).trans f3).trans (FrV.same E3.g s o)) (VOk.mono E ((f1.trans f2).trans f3) o)
def opSlL : PyData → Option Int → Option Int → Option DV
  | .list ds, lo, hi => some (.own (cutD ds lo hi))
  | _, _, _ => none
def opSlT : PyData → Option Int → Option Int → Option DV
  | .tuple ds, lo, hi => some (.d (.tuple (cutD ds lo hi)))
  | _, _, _ => none
theorem slLD {K : PySem.W.Frag} : SlD (rSlL K) opSlL := by
  intro t B H v a lo hi z Q hB ra e k
  cases ra <;> cases e
  rename_i h1 h2
  exact ⟨_, _, rfl, SqL.of (msk_some h1).2, fun p hp => k _ _ (same_new hp) (new_own hB hp (h2.cut lo hi))⟩
theorem slTD {K : PySem.W.Frag} : SlD (rSlA K) opSlT := by
  intro t B H v a lo hi z Q hB ra e k
  cases ra with
  | @tup a xs ds h1 h2 =>
    cases e
    refine ⟨_, _, rfl, SqT.of (msk_some h1).2, fun hw => k _ H (fun _ _ h => h) ?_, fun _ p hp => k _ _ (same_new hp) (new_tup hB hp (h2.cut lo hi))⟩
    rw [h2.length] at hw
    have e : cutD ds lo hi = ds := by
      unfold cutD
      rw [hw.1, hw.2, List.drop_zero, Nat.sub_zero, List.take_length]
    rw [e]
    exact Rp.tup h1 h2
  | _ => cases e
def opCatT : PyData → PyData → Option DV
  | .tuple a, .tuple b => if a.length + b.length ≤ 200000 then some (.d (.tuple (a ++ b))) else none
  | _, _ => none
theorem r2CatT {K : PySem.W.Frag} : R2D (rCatA K) opCatT := by
  intro t B H v w a b z Q hB ra rb e k
  cases ra <;> cases rb <;> simp only [opCatT, reduceCtorEq] at e
  rename_i h1 h2 _ _ _ h3 h4
  split at e
  · rename_i hz
    cases e
    refine ⟨_, _, _, _, rfl, rfl, SqT.of (msk_some h1).2, SqT.of (msk_some h3).2, ?_, fun e => k _ H (fun _ _ h => h) ?_, fun _ e => k _ H (fun _ _ h => h) ?_, fun _ _ p hp => k _ _ (same_new hp) (new_tup hB hp (h2.app h4))⟩
    · rw [h2.length, h4.length]
      exact Nat.le_trans hz (by decide)
    · subst e
      cases h2
      exact Rp.tup h3 h4
    · subst e
      cases h4
      rw [List.append_nil]
      exact Rp.tup h1 h2
  · cases e
/-- x in (..) of data -/
def opInT (neg : Bool) : PyData → PyData → Option DV := fun a b => match b with
  | .tuple ds => if SeqAt.shaped a = true ∧ SeqAt.shaped (.tuple ds) = true then some (.d (.bool (if neg then !ds.any fun z => PyData.eqv z a else ds.any fun z => PyData.eqv z a))) else none
  | _ => none
def rInT (K : PySem.W.Frag) : R2 := fun x y H Q => ∃ d ds, Dp K H x d ∧ Dp K H y (.tuple ds) ∧ SeqAt.shaped d = true ∧ SeqAt.shaped (.tuple ds) = true ∧ Q (.bl (ds.any fun z => PyData.eqv z d)) H
theorem op_inT {X : Cx} (hu : X.A.units + 65 < cLine) : OpR X (PySem.compareOp .In) (rInT X.K) := by
  intro pins s σ H x y v u Q I rx ry h
  obtain ⟨d, ds, hd, he, sd, se, q⟩ := h
  obtain ⟨as, r1⟩ := Dp.reads I d x v hd rx
  obtain ⟨bs, r2⟩ := Dp.reads I (.tuple ds) y u he ry
  exact SeqAt.in_tuple_reads r2 r1 (SeqAt.canLay_of_shaped se) (SeqAt.canLay_of_shaped sd) (PyProof.Rows.room_in_shaped sd hu) ⟨.bl _, H, I, rfl, q⟩
theorem r2InT {K : PySem.W.Frag} : R2D (rInT K) (opInT false) := by
  intro t B H v w a b z Q hB ra rb e k
  cases rb <;> simp only [opInT, reduceCtorEq] at e
  split at e
  · rename_i h1 h2 h
    cases e
    exact ⟨a, _, up_msk ra h.1, (Rp.tup h1 h2 |> fun r => up_msk r h.2), h.1, h.2, k _ H (fun _ _ h => h) (Rp.bl _)⟩
  · cases e
/-- max, min of a list of ints -/
def maxI : List Int → Option Int
  | [] => none
  | i :: is => some (is.foldl max i)
def minI : List Int → Option Int
  | [] => none
  | i :: is => some (is.foldl min i)
theorem foldl_max (is : List Int) : ∀ i : Int, (is.foldl max i ∈ i :: is) ∧ ∀ j ∈ i :: is, j ≤ is.foldl max i := by
  induction is with
  | nil => intro i; exact ⟨List.mem_cons_self, fun j hj => by rw [List.mem_singleton.mp hj]; exact Int.le_refl _⟩
  | cons a is ih =>
    intro i
    obtain ⟨h1, h2⟩ := ih (max i a)
    refine ⟨?_, fun j hj => ?_⟩
    · rcases List.mem_cons.mp h1 with e | e
      · show is.foldl max (max i a) ∈ _
        rw [e]
        by_cases h : i ≤ a
        · rw [show max i a = a by omega]; exact List.mem_cons_of_mem _ List.mem_cons_self
        · rw [show max i a = i by omega]; exact List.mem_cons_self
      · exact List.mem_cons_of_mem _ (List.mem_cons_of_mem _ e)
    · have hm := h2 (max i a) List.mem_cons_self
      show j ≤ is.foldl max (max i a)
      rcases List.mem_cons.mp hj with e | e
      · omega
      · rcases List.mem_cons.mp e with e | e
        · omega
        · exact h2 j (List.mem_cons_of_mem _ e)
theorem foldl_min (is : List Int) : ∀ i : Int, (is.foldl min i ∈ i :: is) ∧ ∀ j ∈ i :: is, is.foldl min i ≤ j := by
  induction is with
  | nil => intro i; exact ⟨List.mem_cons_self, fun j hj => by rw [List.mem_singleton.mp hj]; exact Int.le_refl _⟩
  | cons a is ih =>
    intro i
    obtain ⟨h1, h2⟩ := ih (min i a)
    refine ⟨?_, fun j hj => ?_⟩
    · rcases List.mem_cons.mp h1 with e | e
      · show is.foldl min (min i a) ∈ _
        rw [e]
        by_cases h : i ≤ a
        · rw [show min i a = i by omega]; exact List.mem_cons_self
        · rw [show min i a = a by omega]; exact List.mem_cons_of_mem _ List.mem_cons_self
      · exact List.mem_cons_of_mem _ (List.mem_cons_of_mem _ e)
    · have hm := h2 (min i a) List.mem_cons_self
      show is.foldl min (min i a) ≤ j
      rcases List.mem_cons.mp hj with e | e
      · omega
      · rcases List.mem_cons.mp e with e | e
        · omega
        · exact h2 j (List.mem_cons_of_mem _ e)
def bMaxL : List PyData → Option DV
  | [.list ds] => (intsOf ds).bind fun ns => (maxI ns).map fun m => .d (.int m)
  | _ => none
def bMinL : List PyData → Option DV
  | [.list ds] => (intsOf ds).bind fun ns => (minI ns).map fun m => .d (.int m)
  | _ => none
theorem rsMax {K : PySem.W.Frag} : RsD (rMax K) bMaxL := by
  intro t B H vs as z Q hB r e k
  cases r with
  | nil => cases e
  | cons r t =>
    cases t with
    | cons _ _ => cases r <;> cases e
    | nil =>
      cases r <;> simp only [bMaxL, reduceCtorEq] at e
      rename_i a xs ds h1 h2
      cases q : intsOf ds with
      | none => rw [q] at e; cases e
      | some ns =>
        rw [q] at e
        cases ns with
        | nil => cases e
        | cons i is =>
          cases e
          obtain ⟨m1, m2⟩ := foldl_max is i
          refine ⟨_, i :: is, rfl, ?_, Nat.succ_pos _, fun m hm hm2 => ?_⟩
          · rw [← ints_of h2 q]
            exact SqL.of (msk_some h1).2
          · have : m = is.foldl max i := Int.le_antisymm (m2 m hm) (hm2 _ m1)
            rw [this]
            exact k _ H (fun _ _ h => h) (Rp.int _)
theorem rsMin {K : PySem.W.Frag} : RsD (rMin K) bMinL := by
  intro t B H vs as z Q hB r e k
  cases r with
  | nil => cases e
  | cons r t =>
    cases t with
    | cons _ _ => cases r <;> cases e
    | nil =>
      cases r <;> simp only [bMinL, reduceCtorEq] at e
      rename_i a xs ds h1 h2
      cases q : intsOf ds with
      | none => rw [q] at e; cases e
      | some ns =>
        rw [q] at e
        cases ns with
        | nil => cases e
        | cons i is =>
          cases e
          obtain ⟨m1, m2⟩ := foldl_min is i
          refine ⟨_, i :: is, rfl, ?_, Nat.succ_pos _, fun m hm hm2 => ?_⟩
          · rw [← ints_of h2 q]
            exact SqL.of (msk_some h1).2
          · have : m = is.foldl min i := Int.le_antisymm (hm2 _ m1) (m2 m hm)
            rw [this]
            exact k _ H (fun _ _ h => h) (Rp.int _)
theorem RpA.pairs {M : Hp} {vs : List V} {ds : List PyData} (r : RpA M vs ds) : ∃ ps : List (V × PyData), ps.map Prod.fst = vs ∧ ps.map Prod.snd = ds ∧ ∀ p ∈ ps, Rp M p.1 p.2 :=
  ⟨List.zip vs ds, List.map_fst_zip (by rw [r.length]; exact Nat.le_refl _), List.map_snd_zip (by rw [r.length]; exact Nat.le_refl _), r.zips⟩
theorem RpA.of_pairs {M : Hp} : ∀ {ps : List (V × PyData)}, (∀ p ∈ ps, Rp M p.1 p.2) → RpA M (ps.map Prod.fst) (ps.map Prod.snd)
  | [], _ => .nil
  | p :: ps, h => .cons (h p List.mem_cons_self) (RpA.of_pairs fun q hq => h q (List.mem_cons_of_mem _ hq))
/-- a row's price and rank -/
def rowK : PyData → Option (Int × Int)
  | .tuple [_, _, _, .int p, _, _, _, .int k] => some (p, k)
  | _ => none
def leK (neg : Bool) : PyData → PyData → Bool := fun a b => match rowK a, rowK b with
  | some p, some q => decide (key1 neg p.1 < key1 neg q.1 ∨ (key1 neg p.1 = key1 neg q.1 ∧ p.2 ≤ q.2))
  | _, _ => false
def dSortR (neg : Bool) (f : DF) : DF := fun ρ n Q => f ρ n fun r n1 => ∃ ds, r.dat = some (.list ds) ∧ (∀ d ∈ ds, (rowK d).isSome = true) ∧ Q (.own (ds.mergeSort (leK neg))) n1
theorem rowK_parts {M : Hp} {v : V} {d : PyData} {p k : Int} (r : Rp M v d) (e : rowK d = some (p, k)) : ∃ t ws, v = .ref t ∧ M t = some (.tup ws) ∧ ws.length = 8 ∧ ws[3]? = some (.int p) ∧ ws[7]? = some (.int k) := by
  unfold rowK at e
  split at e
  · cases e
    cases r with
    | tup h1 h2 =>
      cases h2 with
      | cons _ t => cases t with
        | cons _ t => cases t with
          | cons _ t => cases t with
            | cons a t => cases t with
              | cons _ t => cases t with
                | cons _ t => cases t with
                  | cons _ t => cases t with
                    | cons b t =>
                      cases t
                      cases a
                      cases b
                      exact ⟨_, _, rfl, h1, rfl, rfl, rfl⟩
  · cases e
/-- a row's price and rank, as the heap has them -/
def keyVI : Option V → Int
  | some (.int p) => p
  | _ => 0
def keyV (M : Hp) (v : V) : Int × Int := match v with
  | .ref t => match M t with
    | some (.tup ws) => (keyVI ws[3]?, keyVI ws[7]?)
    | _ => (0, 0)
  | _ => (0, 0)
theorem keyV_eq {M : Hp} {v : V} {d : PyData} {p k : Int} (r : Rp M v d) (e : rowK d = some (p, k)) : keyV M v = (p, k) := by
  obtain ⟨t, ws, rfl, h1, _, h3, h4⟩ := rowK_parts r e
  unfold keyV
  simp only [h1, h3, h4, keyVI]
theorem sort_own {c : EC} {A : Nat → Option Addr} {n : Fam.S} {σ : L2.St} {H H2 : Hp} {ρ : List DV} (E : EnvA c A n σ H ρ) {ps : List (V × PyData)} {p : Addr} {leV : V → V → Bool} {leP : PyData → PyData → Bool} (ra : ∀ q ∈ ps, Rp (msk (c.av n A) H) q.1 q.2)
    (hle : ∀ a ∈ ps, ∀ b ∈ ps, leP a.2 b.2 = leV a.1 b.1) (eN : LamX.ExtN H H2) (hT : LamX.Tabs Tabz.T H2) (hp : H2 p = none) :
    FrV c A n n H (upd H2 p (.lst ((ps.map Prod.fst).mergeSort leV))) (.ref p) (.own ((ps.map Prod.snd).mergeSort leP)) ∧ VOk c.t (c.av n A) H (.ref p) (upd H2 p (.lst ((ps.map Prod.fst).mergeSort leV))) (.own ((ps.map Prod.snd).mergeSort leP)) := by
  have fr0 : ∀ o, H p = some o → ∃ xs, o = HO.tbl xs := fun o e => by
    apply Classical.byContradiction
    intro no
    have := eN p o e fun ps z => no ⟨ps, z⟩
    rw [hp] at this
    cases this
  have xt : Xt (msk (c.av n A) H) (msk (fun b => c.av n A b ∨ V.ref p = .ref b) (upd H2 p (.lst ((ps.map Prod.fst).mergeSort leV)))) := fun b o q e => by
    obtain ⟨g1, g2⟩ := msk_some e
    have e2 := eN b o g2 q
    have nb : b ≠ p := fun z => by rw [z, hp] at e2; cases e2
    rw [msk_out fun z => z.elim g1 (fun z => nb (by cases z; rfl)), upd_ne nb]
    exact e2
  refine ⟨⟨fun b o q e => ?_, Fam.mv E.g.1 xt fun a o e h => ?_, hT.ext (same_new hp)⟩, p, _, rfl, ⟨fr0, E.apart fr0⟩, upd_same, ?_⟩
  · have e2 := same_new (o := .lst ((ps.map Prod.fst).mergeSort leV)) hp b o (eN b o e q)
    exact ⟨fun p => ⟨e2, p⟩, o, e2, q⟩
  · obtain ⟨o', hy, hq⟩ := Fam.ty E.g.1 e
    rw [hy] at h
    cases h
    exact same_new hp _ _ (eN a _ hy hq)
  · have e1 : (ps.map Prod.fst).mergeSort leV = (ps.mergeSort fun a b => leP a.2 b.2).map Prod.fst := (List.map_mergeSort (fun a ha b hb => hle a ha b hb)).symm
    have e2 : (ps.map Prod.snd).mergeSort leP = (ps.mergeSort fun a b => leP a.2 b.2).map Prod.snd := (List.map_mergeSort (f := Prod.snd) (fun a ha b hb => rfl)).symm
    rw [e1] at xt ⊢
    rw [e2]
    refine RpA.of_pairs fun q hq => ?_
    refine Rp.ex (Rp.ex (ra q (List.mem_mergeSort.mp hq)) xt) fun b o _ e => ?_
    obtain ⟨g1, g2⟩ := msk_some e
    rw [msk_out fun z => g1 (z.imp id fun z => by rw [z])]
    exact g2
theorem pdSortR {X : Cx} {e : Expr} {neg : Bool} {f : DF} (h : PE X e (tSortLam X.K Tabz.T neg (tD f))) : PE X e (tD (dSortR neg f)) := h.imp fun σ H Q ⟨c, A, n, ρ, Q', E, hf, k⟩ => by
  refine ⟨c, A, n, ρ, _, E, hf, fun v r n1 H1 ⟨ds, e1, ok, h1⟩ f1 o1 => ?_⟩
  have rp := o1.dat E e1
  have E1 := E.fr f1
  cases rp with
  | @lst a xs _ g1 g2 =>
    obtain ⟨ps, p1, p2, p3⟩ := g2.pairs
    have okp : ∀ q ∈ ps, ∃ pk, rowK q.2 = some pk := fun q hq => Option.isSome_iff_exists.mp (ok _ (by rw [← p2]; exact List.mem_map.mpr ⟨q, hq, rfl⟩))
    refine ⟨a, xs, keyV (msk (c.av n1 A) H1), rfl, SqL.of (msk_some g1).2, fun y hy => ?_, E1.g.2, fun H2 p eN hT hp => ?_⟩
    · rw [← p1] at hy
      obtain ⟨q, hq, rfl⟩ := List.mem_map.mp hy
      obtain ⟨pk, e2⟩ := okp q hq
      obtain ⟨t, ws, e3, e4, e5, e6, e7⟩ := rowK_parts (p3 q hq) e2
      rw [keyV_eq (p3 q hq) e2]
      exact ⟨t, ws, e3, SqT.of (msk_some e4).2, e5, e6, e7⟩
    · obtain ⟨fr, vo⟩ := sort_own E1 (leP := leK neg) (leV := rowLe neg (keyV (msk (c.av n1 A) H1))) p3 (fun a ha b hb => by
        obtain ⟨pa, ea⟩ := okp a ha
        obtain ⟨pb, eb⟩ := okp b hb
        unfold rowLe leK
        simp only [ea, eb, keyV_eq (p3 a ha) ea, keyV_eq (p3 b hb) eb]) eN hT hp
      rw [p1, p2] at fr vo
      exact k _ _ n1 _ h1 (f1.trans fr) (VOk.mono E f1 vo)
/-- sorted(xs, key=lambda row: row[7]) -/
def rowR : PyData → Option Int := fun d => (rowK d).map Prod.snd
def leR : PyData → PyData → Bool := fun a b => match rowK a, rowK b with
  | some p, some q => decide (p.2 ≤ q.2)
  | _, _ => false
theorem lam_rank {prog : Program} {w : World} {A : Around} {s : Shared} {q : Str} {f c' t : Addr} {pm ctv : Value} {items : Array Value} {j : Int} {tj : Tok} {p0 p5 p6 p7 : Pos} (hd : A.depth < recursionLimit) (hlim : s.heap.NoLimit)
    (hf : s.heap.get? f = some (PySem.W.kla_obj "<lambda>" q (lamArgs p0) (rowAt 7 p5 p6 p7) lamScope [] pm c' ctv)) (hrec : s.heap.CodeRec (.ref c') q) (ht : PyProof.Rows.IsTup s.heap t items) (hz : items.size = 8)
    (h7 : items[7]? = some (.int j tj)) :
    wpAny (model prog w) A (call (.ref f) [.ref t]) (PySem.W.KeyPure (.int j) s) (fun _ _ => False) s := by
  refine wpAny_call (PySem.W.kla_callFunE hd hf rfl rfl rfl rfl hrec ?_)
  have hb : bindArgs (PySem.W.kla_fn "<lambda>" q (lamArgs p0) (rowAt 7 p5 p6 p7) lamScope [] pm (.ref c') ctv) ⟨[.ref t], []⟩ = pure [(("row" : Str), Value.ref t)] := by first | rfl | with_unfolding_all rfl | kernel_rfl
  rw [hb]
  refine wpAny_pure (wpAny_newFunctionEnv (scope := lamScope) (by decide +kernel) (fun y hy => by rw [List.mem_singleton.mp hy]; rfl) (fun h₁ hns hsb => ⟨hlim.fresh _ hsb, ?_⟩) rfl)
  show codeAny _ _ (.expr (rowAt 7 p5 p6 p7) (PySem.W.envX q lamScope s.heap.objs.size f (.ref c') [])) _ _
  have kp : ∀ b o, s.heap.get? b = some o → h₁.get? b = some o := fun b o e => hsb.extBut b o (Nat.ne_of_lt (Heap.lt_size e)) (Heap.get?_push_of_some _ e)
  refine PySem.W.kla_codeExpr ?_
  refine rowAt_ok (items := items) (j := 7) hns rfl (ht.keeps kp) (by decide) (by decide) (by rw [hz]; rfl) h7 fun tk => ?_
  exact ⟨_, _, rfl, kp, .int _ _⟩
def tSortRk (K : PySem.W.Frag) (T : List (Addr × Str)) (te : TE) : TE := fun σ H Q => te σ H fun x H1 => ∃ (a : Addr) (xs : List V) (kk : V → Int), x = .ref a ∧ SqL K H1 a xs ∧
  (∀ y ∈ xs, ∃ t ws, y = .ref t ∧ SqT K H1 t ws ∧ ws.length = 8 ∧ ws[7]? = some (.int (kk y))) ∧ LamX.Tabs T H1 ∧
  ∀ H2 p, LamX.ExtN H1 H2 → LamX.Tabs T H2 → H2 p = none → Q (.ref p) (upd H2 p (.lst (xs.mergeSort fun a b => decide (kk a ≤ kk b))))
theorem pe_sortRk {X : Cx} {T : List (Addr × Str)} {c P : Addr} {e : Expr} {te : TE} {p pos lpos kpos p0 p5 p6 p7 : Pos} (hg : Gl X "sorted") (hm : X.mg "sorted" = none) (TB : LamX.TabB X.base X.mg c P) (hcode : X.env.code = .ref c)
    (hmT : (P, X.env.qual ++ "<lambda>") ∈ T) (hu : ∀ p ∈ T, p.1 = P → p.2 = X.env.qual ++ "<lambda>") (hr : Room 1 X.A) (he : PE X e te)
    (hst : backTo pos (starEach [e] X.env) = (false, eval e X.env) :: backTo pos (starEach [] X.env) := by rfl) (hpl : (backTo pos (starEach [e] X.env)).any (·.1) = false := by rfl) :
    PE X (.Call (.Name "sorted" p) [e] [⟨some "key", .Lambda (lamArgs p0) (rowAt 7 p5 p6 p7) lamScope lpos, kpos⟩] pos) (tSortRk X.K T te) := by
  refine ⟨fun pins s σ H Q I h => ?_⟩
  refine wpAny_Call_Name_kw (ld_blt I hg hm (by decide +kernel : bootBuiltins "sorted" = some (.builtin "sorted")) ?_ (by decide) (by decide))
  refine PyProof.Rows.callWith_kw (kws := [⟨some "key", .Lambda (lamArgs p0) (rowAt 7 p5 p6 p7) lamScope lpos, kpos⟩]) ?_ hst hpl rfl rfl
  rw [hst]
  refine Calls.spliced_cons (thn (he.run pins s σ H _ I h) fun u s1 ⟨x, H1, I1, r1, q1⟩ => Calls.spliced_nil ?_)
  obtain ⟨a, xs, kk, rfl, hs, hk, hT, q⟩ := q1
  obtain rfl : u = Value.ref a := r1
  show wpAny _ _ (evalAll ((do let v ← eval (.Lambda (lamArgs p0) (rowAt 7 p5 p6 p7) lamScope lpos) X.env; standAt pos; pure v) :: [])) _ _ s1
  refine wpAny_evalAll_cons (wpAny_bind (LamX.lam_make2 I1 TB hcode hmT hu hT rfl (fun y hy e => by rw [List.mem_singleton.mp hy] at e; cases e) fun f c' pm ctv H2 s2 I2 eN T2 hf hfn hfr hco => wpAny_bind (wpAny_standAt (wpAny_pure ?_))))
  refine wpAny_evalAll_nil ?_
  show wpAny _ _ (call (.builtin "sorted") [.ref a] [("key", .ref f)]) _ _ s2
  obtain ⟨its, rv, hl, hz⟩ := I2.list (extN_L eN hs)
  have hun := hr.un
  have hdp := hr.dp
  have hrec : s2.heap.CodeRec (.ref c') (X.env.qual ++ "<lambda>") := by
    obtain ⟨⟨oc, vs, t, h1, h2, h3⟩, _⟩ := I2.hok c' _ hco
    exact ⟨c', oc, vs, t, rfl, h1, h2, h3⟩
  refine PySem.W.sorted_key_data (β := V) (R := fun v x => RelV x v) (b := false) (bs := xs) (vs := its) (fun y => .int (kk y)) hl.isList (each_of rv) ?_ ?_ hz ?_ (PyProof.Rows.ksk_s1 _ _) (fun _ => PyProof.Rows.ksk_l1 _ _) (fun x => PyProof.Rows.ksk_t1 f x) ?_ ?_
  · intro d hd d' hd'
    obtain ⟨y, _, rfl⟩ := List.mem_map.mp hd
    obtain ⟨y', _, rfl⟩ := List.mem_map.mp hd'
    rfl
  · refine .inr fun d hd => ?_
    obtain ⟨y, _, rfl⟩ := List.mem_map.mp hd
    exact ⟨(fun z => by cases z), fun xs z => by cases z⟩
  · intro y hy
    have e : (PyData.int (kk y)).depth ≤ 10 := by
      simp [PyData.depth]
    omega
  · intro v y hv hy h tk keep
    obtain ⟨t, ws, rfl, ht, hlen, h7⟩ := hk y hy
    obtain rfl : v = Value.ref t := hv
    obtain ⟨its2, rv2, pl, hz2⟩ := I2.tuple (extN_T eN ht)
    obtain ⟨u7, e7, ru7⟩ := rv2.get h7
    obtain ⟨t7, rfl⟩ := ru7
    exact lam_rank (s := { s2 with heap := h, toks := tk }) (items := its2.toArray) (by show X.A.depth < _; omega) (I2.nolimit.keeps keep) (keep _ _ hf) (hrec.keeps keep) (pl.keeps keep) (by rw [List.size_toArray, ← rv2.length, hlen]) (by simpa using e7)
  · intro out cc h' tk keep fresh hget hlen each
    have e2 : PySem.W.dataLe false (fun y : V => PyData.int (kk y)) = fun a b => decide (kk a ≤ kk b) := PySem.W.dataLe_int kk
    rw [e2] at each
    refine ⟨.ref _, upd H2 (s2.heap.objs.size + 1) (.lst (xs.mergeSort fun a b => decide (kk a ≤ kk b))), I2.laid (t' := tk) keep (Nat.le_succ _) ⟨?_, out, cc, vals_of each, hget⟩, rfl, q H2 _ eN T2 (I2.hok.fresh (Nat.le_succ _))⟩
    rw [List.length_mergeSort]
    exact hz
def dSort7 (f : DF) : DF := fun ρ n Q => f ρ n fun r n1 => ∃ ds, r.dat = some (.list ds) ∧ (∀ d ∈ ds, (rowK d).isSome = true) ∧ Q (.own (ds.mergeSort leR)) n1
theorem pdSort7 {X : Cx} {e : Expr} {f : DF} (h : PE X e (tSortRk X.K Tabz.T (tD f))) : PE X e (tD (dSort7 f)) := h.imp fun σ H Q ⟨c, A, n, ρ, Q', E, hf, k⟩ => by
  refine ⟨c, A, n, ρ, _, E, hf, fun v r n1 H1 ⟨ds, e1, ok, h1⟩ f1 o1 => ?_⟩
  have rp := o1.dat E e1
  have E1 := E.fr f1
  cases rp with
  | @lst a xs _ g1 g2 =>
    obtain ⟨ps, p1, p2, p3⟩ := g2.pairs
    have okp : ∀ q ∈ ps, ∃ pk, rowK q.2 = some pk := fun q hq => Option.isSome_iff_exists.mp (ok _ (by rw [← p2]; exact List.mem_map.mpr ⟨q, hq, rfl⟩))
    refine ⟨a, xs, fun y => (keyV (msk (c.av n1 A) H1) y).2, rfl, SqL.of (msk_some g1).2, fun y hy => ?_, E1.g.2, fun H2 p eN hT hp => ?_⟩
    · rw [← p1] at hy
      obtain ⟨q, hq, rfl⟩ := List.mem_map.mp hy
      obtain ⟨pk, e2⟩ := okp q hq
      obtain ⟨t, ws, e3, e4, e5, e6, e7⟩ := rowK_parts (p3 q hq) e2
      show ∃ t ws, _ ∧ _ ∧ _ ∧ _ = some (V.int (keyV (msk (c.av n1 A) H1) q.1).2)
      rw [keyV_eq (p3 q hq) e2]
      exact ⟨t, ws, e3, SqT.of (msk_some e4).2, e5, e7⟩
    · obtain ⟨fr, vo⟩ := sort_own E1 (leP := leR) (leV := fun a b => decide ((keyV (msk (c.av n1 A) H1) a).2 ≤ (keyV (msk (c.av n1 A) H1) b).2)) p3 (fun a ha b hb => by
        obtain ⟨pa, ea⟩ := okp a ha
        obtain ⟨pb, eb⟩ := okp b hb
        unfold leR
        simp only [ea, eb, keyV_eq (p3 a ha) ea, keyV_eq (p3 b hb) eb]) eN hT hp
      rw [p1, p2] at fr vo
      exact k _ _ n1 _ h1 (f1.trans fr) (VOk.mono E f1 vo)
/-- f(a, k = b): the values in the def's order -/
def tDK (f : DA) : TA := tDA f
theorem _root_.L2.PK.imp {X : Cx} {kws : List Keyword} {t t' : TA} (h : PK X kws t) (i : ∀ σ H Q, t' σ H Q → t σ H Q) : PK X kws t' := ⟨fun pos pins s σ H Q I q => h.run pos pins s σ H Q I (i σ H Q q)⟩
theorem pkNil {X : Cx} : PK X [] (tDA dNil) := pk_nil.imp fun σ H Q ⟨c, A, n, ρ, Q', E, hf, k⟩ => k [] [] n H hf (.refl E.g) .nil
theorem pkCons {X : Cx} {nm : Option Str} {e : Expr} {kws : List Keyword} {kpos : Pos} {f : DF} {g : DA} (ha : PE X e (tD f)) (hr : PK X kws (tDA g)) : PK X (⟨nm, e, kpos⟩ :: kws) (tDA (dCons f g)) := (pk_cons ha hr).imp fun σ H Q ⟨c, A, n, ρ, Q', E, hf, k⟩ => by
  refine ⟨c, A, n, ρ, _, E, hf, fun v x n1 H1 hg f1 o1 => ⟨c, A, n1, ρ, _, E.fr f1, hg, fun vs rs n2 H2 hq f2 o2 => ?_⟩⟩
  exact k (v :: vs) _ n2 H2 hq (f1.trans f2) (.cons (o1.later E f1 f2).cold (cold_cold _) (o2.mono E f1))
theorem VsOk.later {c : EC} {A : Nat → Option Addr} {n m m' : Fam.S} {σ : L2.St} {H H1 H2 : Hp} {ρ : List DV} (E : EnvA c A n σ H ρ) {w w' : V} {r r' : DV} (f : FrV c A n m H H1 w r) (f' : FrV c A m m' H1 H2 w' r') : ∀ {vs : List V} {rs : List DV}, VsOk c.t (c.av m A) H H1 vs rs → VsOk c.t (c.av m' A) H H2 vs rs
  | _, _, .nil => .nil
  | _, _, .cons h ec t => .cons (h.later E f f') ec (VsOk.later E f f' t)
/-- how keywords lie: g puts the positional ones and the told ones in the def's order, dflt among them -/
def dCallK (m : DM) (gD : List DV → List DV → List DV) (g h : DA) : DF := fun ρ n Q => g ρ n fun rs n1 => h ρ n1 fun ks n2 => plainR (gD rs ks) ∧ m (gD rs ks) n2 Q
def KwOk (gV : List V → List V → List V) (gD : List DV → List DV → List DV) : Prop := ∀ (t : V) (B : Addr → Prop) (H H' : Hp) (vs zs : List V) (rs ks : List DV), VsOk t B H H' vs rs → VsOk t B H H' zs ks → VsOk t B H H' (gV vs zs) (gD rs ks)
theorem callK_le {m : DM} {gV : List V → List V → List V} {gD : List DV → List DV → List DV} {g h : DA} (hk : KwOk gV gD) (E0 : XK) (σ : L2.St) (H : Hp) (Q : VK) (q : tD (dCallK m gD g h) σ H Q) : tCallK (spD m) gV E0 (tDA g) (tDA h) σ H Q := by
  obtain ⟨c, A, n, ρ, Q', E, hf, k⟩ := q
  refine ⟨c, A, n, ρ, _, E, hf, fun vs rs n1 H1 h1 f1 o1 => ⟨c, A, n1, ρ, _, E.fr f1, h1, fun zs ks n2 H2 ⟨pl, hm⟩ f2 o2 => ?_⟩⟩
  have E2 := (E.fr f1).fr f2
  have oa : VsOk c.t (c.av n2 A) H H2 (gV vs zs) (gD rs ks) := hk _ _ _ _ _ _ _ _ (o1.later E f1 f2) (o2.mono E f1)
  refine ⟨E2.ec, n2, gD rs ks, Q', rfl, rfl, by rw [E2.ec_B]; exact E2.g, rfl, by rw [E2.ec_B]; exact VsOk.now (m := n2) E oa pl, hm, fun v r n' H' hq f3 o3 => ?_⟩
  rw [E2.ec_B] at o3
  exact k v r n' H' hq ((f1.trans f2).trans (E2.ec_fr f3)) (VOk.mono E (f1.trans f2) o3)
theorem pdCallK {X : Cx} {CX : CXT} {k : Nat} {f : Addr} {fd : FuncData} {ps ks : List Str} {gW : List Value → List Value → List Value} {gV : List V → List V → List V} {gD : List DV → List DV → List DV} {m : DM} {x : Str} {p pos : Pos} {e : Expr} {es : List Expr} {kws : List Keyword} {g h : DA} {E0 : XK} (hkw : KwOk gV gD) (F : FnOk X.prog X.w X.K X.mg X.base CX k f fd ps (spD m)) (hr : Room k X.A) (hg : Gl X x) (hm : X.mg x = some (.ref f)) (hk : PySem.W.keepIn X.K (.ref f) = true) (hb : KBinds X.K fd ps ks gW gV) (hx : Passes CX X E0)
    (ha : PA X (e :: es) (tDA g)) (hkws : PK X kws (tDA h)) (hall : (backToKw pos (keywordEach kws X.env)).all (·.1.isSome) = true := by rfl) (hks : (backToKw pos (keywordEach kws X.env)).filterMap (·.1) = ks := by rfl)
    (hdb : (x == ("__debug__" : Str)) = false := by decide) (he : starEach (e :: es) X.env = (false, eval e X.env) :: starEach es X.env := by rfl)
    (hpl : ((backTo pos (starEach (e :: es) X.env)).any (·.1) || (backToKw pos (keywordEach kws X.env)).any (·.1.isNone)) = false := by rfl) :
    PE X (.Call (.Name x p) (e :: es) kws pos) (tD (dCallK m gD g h)) := (pe_callK F hr hg hm hk hb hx ha hkws hall hks hdb he hpl).imp (callK_le hkw E0)
end

/-! ### defs that make lambdas -/
section
variable [Fam] [Tabz] {P : Program} {w : World} {K : PySem.W.Frag} {mg : Str → Option Value} {base : Heap}
/-- a def whose code object is known -/
def FunC (K : PySem.W.Frag) (x qual : Str) (st : Stmt) (f c : Addr) (fd : FuncData) : Prop := ∃ (oc : Value) (od : Option Addr) (kV doc pm : Value) (an : Option Addr) (ct : Value) (osl : Array (Option Value)),
  fd = PySem.W.fnOf x qual (defArgs st) (defBody st) (defScope st) .none kV doc pm an (.ref c) ct ∧ K.lookup f = some ⟨oc, od, .func fd, osl⟩ ∧ PySem.W.codeIn K (.ref c) qual = true
theorem FunC.ok {x qual : Str} {st : Stmt} {f c : Addr} {fd : FuncData} {N ps : List Str} {k : Nat} {sp : Sp} (F : FunC K x qual st f c fd) (S : FnScope N ps (defScope st)) (len : ∀ vs H Q E, sp vs H Q E → vs.length = ps.length)
    (hbody : ∀ (A : Around) (outer : List Env) (s : Shared) (H : Hp) (vs : List V) (Q : VK) (E : XK), Room k (A.deeper (PyProof.Rows.envOfC qual (defScope st) s.heap.objs.size f (.ref c))) → sp vs H Q E →
      ∃ t, PSs (cxOf CX0 P w K mg base N qual (defScope st) f (.ref c) A outer s H E).nox (defBody st) t ∧ t { nx := fun _ H' => Q .non H', rt := Q } (start N vs) H) : FnOk P w K mg base CX0 (k + 1) f fd ps sp := by
  obtain ⟨oc, od, kV, doc, pm, an, ct, osl, rfl, lk, hcd⟩ := F
  refine fn_of lk hcd S len fun A outer s H vs Q E hr hsp => ?_
  obtain ⟨t, h, q⟩ := hbody A outer s H vs Q E hr hsp
  exact ⟨t, h.nox, q⟩
theorem FunC.mk {x qual : Str} {st : Stmt} {f c : Addr} {oc : Value} {od an : Option Addr} {osl : Array (Option Value)} {kV doc pm ct : Value} (l : K.lookup f = some ⟨oc, od, .func (PySem.W.fnOf x qual (defArgs st) (defBody st) (defScope st) .none kV doc pm an (.ref c) ct), osl⟩)
    (h : PySem.W.codeIn K (.ref c) qual = true) : FunC K x qual st f c (PySem.W.fnOf x qual (defArgs st) (defBody st) (defScope st) .none kV doc pm an (.ref c) ct) := ⟨oc, od, kV, doc, pm, an, ct, osl, rfl, l, h⟩
theorem okDC {x qual : Str} {st : Stmt} {f cC : Addr} {fd : FuncData} {N ps : List Str} {k : Nat} {F : DS} {m : DM} (Fn : FunC K x qual st f cC fd) (S : FnScope N ps (defScope st)) (len : ∀ rs n Q, m rs n Q → plainR rs ∧ rs.length = ps.length)
    (body : ∀ (A : Around) (outer : List Env) (s : Shared) (H : Hp) (E : XK), Room k (A.deeper (PyProof.Rows.envOfC qual (defScope st) s.heap.objs.size f (.ref cC))) → PSs (cxOf CX0 P w K mg base N qual (defScope st) f (.ref cC) A outer s H E).nox (defBody st) (sD F))
    (data : ∀ rs n Q, m rs n Q → F { nx := fun _ n => Q (.d .none) n, rt := Q } (rs ++ List.replicate (N.length - rs.length) .un) n) : FnOk P w K mg base CX0 (k + 1) f fd ps (spD m) := by
  refine Fn.ok S (fun vs H Q E ⟨c, n, rs, Q', h0, hn, g, pn, ok, hm, _⟩ => ?_) (fun A outer s H vs Q E hr ⟨c, n, rs, Q', h0, hn, g, pn, ok, hm, kk⟩ => ⟨_, body A outer s H E hr, c, A0, n, _, { nx := fun _ n => Q' (.d .none) n, rt := Q' }, ?_, data rs n Q' hm, ?_⟩)
  · rw [ok.length]
    exact (len _ _ _ hm).2
  · subst h0
    subst hn
    have xt : Xt (msk (c.B c.n0) c.H0) (msk (c.av c.n0 A0) c.H0) := by
      rw [EC.B_A0]
      exact fun _ _ _ h => h
    refine ⟨.refl, c.Gx g xt, fun i a e => (by cases e), fun i a e => (by cases e), fun i j a e => (by cases e), fun i y e => ?_, ?_, fun p hp => (by rw [pn] at hp; cases hp), ⟨0, fun _ _ => rfl⟩, fun i a y e => (by cases e)⟩
    · by_cases hi : i < rs.length
      · rw [List.getElem?_append_left hi] at e
        obtain ⟨v, h1, h2, h3⟩ := ok.get e
        have hs : (L2.start N vs)[i]? = some (some v) := by
          unfold L2.start
          rw [List.getElem?_append_left (by rw [List.length_map, ok.length]; exact hi), List.getElem?_map, h1]
          rfl
        rw [hs]
        cases y with
        | un => exact h2.elim
        | raw v => exact h2.elim
        | tape => 
          refine ⟨?_, h2.2⟩
          rw [show v = c.t from h2.1]
        | d z => exact ⟨v, rfl, Rp.ex h2 xt⟩
        | own ds => cases h3
        | dic kvs => 
          rcases (len _ _ _ hm).1 _ (List.mem_of_getElem? e) with ⟨d, q⟩ | q <;> cases q
      · rw [List.getElem?_append_right (by omega), List.getElem?_replicate] at e
        split at e
        · cases e
          exact True.intro
        · cases e
    · unfold L2.start
      rw [List.length_append, List.length_append, List.length_map, List.length_replicate, List.length_replicate, ok.length]
  · subst h0
    subst hn
    refine ⟨fun A n σ H' ρ h e => ?_, fun v r n H' h fr o => kk v r n H' h fr o, fun A n σ H ρ h e => h.elim, fun A n σ H ρ h e => h.elim⟩
    exact kk .non _ n H' h e.fr0 Rp.non
end

/-! ### data readings: what laws have in common -/
section
variable [Fam] [Tabz]
inductive Cnd (p : Prop) : Prop
  | mk (a b : True) (h : p) : Cnd p
theorem cnd {p : Prop} (h : p) : Cnd p := ⟨True.intro, True.intro, h⟩
theorem Cnd.get {p : Prop} (c : Cnd p) : p := by
  obtain ⟨_, _, h⟩ := c
  exact h
theorem tapeR {rs : List DV} {ds : List PyData} (h : tapeOf rs = some ds) : plainR rs ∧ rs.length = ds.length + 1 := by
  cases rs with
  | nil => cases h
  | cons r rs =>
    cases r <;> first | cases h; done | skip
    have e' : plainOf rs = some ds := h
    obtain ⟨h1, h2⟩ := plainOf_R e'
    refine ⟨fun r hr => ?_, by show rs.length + 1 = _; rw [h2]⟩
    rcases List.mem_cons.mp hr with z | z
    · exact .inr z
    · exact h1 r z
theorem rp_strs {M : Hp} : ∀ ns : List Str, RpA M (ns.map V.str) (ns.map PyData.str)
  | [] => .nil
  | n :: ns => .cons (.str n) (rp_strs ns)
theorem ixMem {xs : List PyData} {i : Int} (h0 : 0 ≤ i) (h : i < xs.length) : ∃ d ∈ xs, opIxL (.list xs) (.int i) = some (.d d) := by
  obtain ⟨j, rfl⟩ := Int.eq_ofNat_of_zero_le h0
  have hj : j < xs.length := by omega
  refine ⟨xs[j], List.getElem_mem hj, ?_⟩
  show (atI xs (j : Int)).map DV.d = _
  rw [atI_nat (v := xs[j]) (List.getElem?_eq_getElem hj)]
  rfl
theorem ix4 {a b c d : PyData} {w : Int} (h0 : 0 ≤ w) (h : w < 4) : opIxL (.list [a, b, c, d]) (.int w) = some (.d a) ∨ opIxL (.list [a, b, c, d]) (.int w) = some (.d b) ∨ opIxL (.list [a, b, c, d]) (.int w) = some (.d c) ∨ opIxL (.list [a, b, c, d]) (.int w) = some (.d d) := by
  have e : w = 0 ∨ w = 1 ∨ w = 2 ∨ w = 3 := by omega
  rcases e with e | e | e | e <;> subst e
  · exact .inl rfl
  · exact .inr (.inl rfl)
  · exact .inr (.inr (.inl rfl))
  · exact .inr (.inr (.inr rfl))
theorem ix3 {a b c : PyData} {w : Int} (h0 : 0 ≤ w) (h : w < 3) : opIxL (.list [a, b, c]) (.int w) = some (.d a) ∨ opIxL (.list [a, b, c]) (.int w) = some (.d b) ∨ opIxL (.list [a, b, c]) (.int w) = some (.d c) := by
  have e : w = 0 ∨ w = 1 ∨ w = 2 := by omega
  rcases e with e | e | e <;> subst e
  · exact .inl rfl
  · exact .inr (.inl rfl)
  · exact .inr (.inr rfl)
theorem ix2 {a b : PyData} {w : Int} (h0 : 0 ≤ w) (h : w < 2) : opIxL (.list [a, b]) (.int w) = some (.d a) ∨ opIxL (.list [a, b]) (.int w) = some (.d b) := by
  have e : w = 0 ∨ w = 1 := by omega
  rcases e with e | e <;> subst e
  · exact .inl rfl
  · exact .inr rfl
theorem ixS {ns : List Str} {r : Int} (h0 : 0 ≤ r) (h : r < ns.length) : ∃ s ∈ ns, opIxL (.list (ns.map PyData.str)) (.int r) = some (.d (.str s)) := by
  obtain ⟨j, rfl⟩ := Int.eq_ofNat_of_zero_le h0
  have hj : j < ns.length := by omega
  refine ⟨ns[j], List.getElem_mem hj, ?_⟩
  show (atI (ns.map PyData.str) (j : Int)).map DV.d = _
  rw [atI_nat (v := .str ns[j]) (by rw [List.getElem?_map, List.getElem?_eq_getElem hj]; rfl)]
  rfl
def bInt : List PyData → Option DV
  | [.int i] => some (.d (.int i))
  | [.bool true] => some (.d (.int 1))
  | [.bool false] => some (.d (.int 0))
  | _ => none
theorem rsInt : RsD (fun xs H Q => (∃ i, xs = [.int i] ∧ Q (.int i) H) ∨ ∃ k, xs = [.bl k] ∧ Q (.int (if k then 1 else 0)) H) bInt := by
  intro t B H vs as z Q hB r e k
  cases r with
  | nil => cases e
  | cons r t =>
    cases t with
    | cons _ _ =>
      cases r with
      | bl b => cases b <;> cases e
      | _ => cases e
    | nil =>
      cases r with
      | bl b =>
        cases b with
        | true => cases e; exact .inr ⟨_, rfl, k _ H (fun _ _ h => h) (Rp.int _)⟩
        | false => cases e; exact .inr ⟨_, rfl, k _ H (fun _ _ h => h) (Rp.int _)⟩
      | int i => cases e; exact .inl ⟨_, rfl, k _ H (fun _ _ h => h) (Rp.int _)⟩
      | _ => cases e
theorem bInt_dec (p : Prop) [Decidable p] : bInt [.bool (decide p)] = some (.d (.int (if p then 1 else 0))) := by
  by_cases h : p
  · rw [decide_eq_true h, if_pos h]
    rfl
  · rw [decide_eq_false h, if_neg h]
    rfl
/-- a rule or another one -/
theorem callR_or {X : Cx} {f : Value} {r q : List V → Hp → VK → Prop} (h1 : CallR X f r) (h2 : CallR X f q) : CallR X f (fun xs H Q => r xs H Q ∨ q xs H Q) := by
  intro pins s σ H xs us Q I rv h
  rcases h with h | h
  · exact h1 pins s σ H xs us Q I rv h
  · exact h2 pins s σ H xs us Q I rv h
/-- str of an int, of a text -/
def bStr : List PyData → Option DV
  | [.int i] => if i.natAbs.log2 < 1920 then some (.d (.str (Str.ofString (toString i)))) else none
  | [.str a] => some (.d (.str a))
  | _ => none
theorem rsStr : RsD (fun xs H Q => (∃ i, xs = [.int i] ∧ i.natAbs.log2 < 1920 ∧ Q (.str (Str.ofString (toString i))) H) ∨ ∃ a, xs = [.str a] ∧ Q (.str a) H) bStr := by
  intro t B H vs as z Q hB r e k
  cases r with
  | nil => cases e
  | cons r t =>
    cases t with
    | cons _ _ => cases r <;> cases e
    | nil =>
      cases r with
      | int i =>
        have e' : (if i.natAbs.log2 < 1920 then some (DV.d (PyData.str (Str.ofString (toString i)))) else none) = some z := e
        clear e
        split at e'
        · cases e'
          exact .inl ⟨_, rfl, by assumption, k _ H (fun _ _ h => h) (Rp.str _)⟩
        · cases e'
      | str a => cases e; exact .inr ⟨_, rfl, k _ H (fun _ _ h => h) (Rp.str _)⟩
      | _ => cases e
theorem call_strA {X : Cx} : CallR X (.type "str") (fun xs H Q => (∃ i, xs = [.int i] ∧ i.natAbs.log2 < 1920 ∧ Q (.str (Str.ofString (toString i))) H) ∨ ∃ a, xs = [.str a] ∧ Q (.str a) H) := callR_or call_str_int SkE.call_str_str
/-- the texts of a list -/
def strsOf : List PyData → Option (List Str)
  | [] => some []
  | .str i :: ds => (strsOf ds).map (i :: ·)
  | _ => none
theorem strsOf_map : ∀ ys : List Str, strsOf (ys.map PyData.str) = some ys
  | [] => rfl
  | y :: ys => by
    show (strsOf (ys.map PyData.str)).map (y :: ·) = _
    rw [strsOf_map ys]
    rfl
theorem strs_of {M : Hp} : ∀ {vs : List V} {ds : List PyData} {ns : List Str}, RpA M vs ds → strsOf ds = some ns → vs = ns.map V.str
  | _, _, _, .nil, e => by cases e; rfl
  | _, _, ns, .cons r t, e => by
    cases r <;> simp only [strsOf, reduceCtorEq] at e
    cases q : strsOf _ with
    | none => rw [q] at e; cases e
    | some ms =>
      rw [q] at e
      cases e
      rw [strs_of t q]
      rfl
def joinSize (a : Str) (ys : List Str) : Prop := (ys.map (·.length)).sum + ys.length * a.length ≤ 16777216
def dJoin (f g : DF) : DF := fun ρ n Q => f ρ n fun x n1 => ∃ a, x = .d (.str a) ∧ g ρ n1 fun y n2 => ∃ ds, y.dat = some (.list ds) ∧ ∃ ys, strsOf ds = some ys ∧ Cnd (joinSize a ys) ∧ Q (.d (.str (Txt.join a ys))) n2
theorem pdJoin {X : Cx} {e : Expr} {to te : TE} {f g : DF} (h : PE X e (tM1 (fun x xs H Q => ∃ a p, ∃ ys : List Str, x = .str a ∧ xs = [.ref p] ∧ (SqL X.K H p (ys.map V.str) ∨ SqT X.K H p (ys.map V.str)) ∧ (ys.map (·.length)).sum + ys.length * a.length ≤ 16777216 ∧ Q (.str (Txt.join a ys)) H) to te)) (ho : ∀ σ H Q, tD f σ H Q → to σ H Q) (he : ∀ σ H Q, tD g σ H Q → te σ H Q) : PE X e (tD (dJoin f g)) := h.imp fun σ H Q ⟨c, A, n, ρ, Q', E, hf, k⟩ => by
  refine ho _ _ _ ⟨c, A, n, ρ, _, E, hf, fun v x n1 H1 ⟨a, ex, hg⟩ f1 o1 => ?_⟩
  subst ex
  cases o1
  refine ⟨⟨a, rfl⟩, he _ _ _ ⟨c, A, n1, ρ, _, E.fr f1, hg, fun w y n2 H2 ⟨ds, ed, ys, es, hs, hq⟩ f2 o2 => ?_⟩⟩
  have rp := o2.dat (E.fr f1) ed
  cases rp with
  | @lst p xs _ h1 h2 =>
    have ex := strs_of h2 es
    subst ex
    exact ⟨a, p, ys, rfl, rfl, .inl (SqL.of (msk_some h1).2), hs.get, k _ _ n2 H2 hq (f1.trans f2.fr) (Rp.str _)⟩
/-- isinstance(e, T), T a built-in class -/
def tyD : PyData → String
  | .none => "NoneType"
  | .bool _ => "bool"
  | .int _ => "int"
  | .str _ => "str"
  | .list _ => "list"
  | .tuple _ => "tuple"
  | .dict _ => "dict"
def isiB (T : String) (d : PyData) : Bool := match T, d with
  | "int", .bool _ => true
  | "int", .int _ => true
  | "bool", .bool _ => true
  | "str", .str _ => true
  | "list", .list _ => true
  | "tuple", .tuple _ => true
  | _, _ => false
theorem kit_int (a : String) (h : a ∈ ["NoneType", "bool", "int", "str", "list", "tuple"]) : kitB a "int" = some (a == "int" || a == "bool") ∧ kitB a "bool" = some (a == "bool") ∧ kitB a "str" = some (a == "str") ∧ kitB a "list" = some (a == "list") ∧ kitB a "tuple" = some (a == "tuple") := by
  simp only [List.mem_cons, List.not_mem_nil, or_false] at h
  rcases h with rfl | rfl | rfl | rfl | rfl | rfl <;> decide +kernel
def isiOk (T : String) : Prop := T = "int" ∨ T = "bool" ∨ T = "str" ∨ T = "list" ∨ T = "tuple"
theorem kit_d {K : PySem.W.Frag} {T : String} (hT : isiOk T) {d : PyData} (hd : ∀ kvs, d ≠ .dict kvs) : PySem.W.kitOne K (.type (tyD d)) (.type T) = some (isiB T d) := by
  cases d with
  | dict kvs => exact absurd rfl (hd kvs)
  | none => obtain ⟨h1, h2, h3, h4, h5⟩ := kit_int "NoneType" (by decide); rcases hT with e | e | e | e | e <;> subst e <;> exact kit_ty (by assumption)
  | bool b => obtain ⟨h1, h2, h3, h4, h5⟩ := kit_int "bool" (by decide); rcases hT with e | e | e | e | e <;> subst e <;> exact kit_ty (by assumption)
  | int i => obtain ⟨h1, h2, h3, h4, h5⟩ := kit_int "int" (by decide); rcases hT with e | e | e | e | e <;> subst e <;> exact kit_ty (by assumption)
  | str s => obtain ⟨h1, h2, h3, h4, h5⟩ := kit_int "str" (by decide); rcases hT with e | e | e | e | e <;> subst e <;> exact kit_ty (by assumption)
  | list xs => obtain ⟨h1, h2, h3, h4, h5⟩ := kit_int "list" (by decide); rcases hT with e | e | e | e | e <;> subst e <;> exact kit_ty (by assumption)
  | tuple xs => obtain ⟨h1, h2, h3, h4, h5⟩ := kit_int "tuple" (by decide); rcases hT with e | e | e | e | e <;> subst e <;> exact kit_ty (by assumption)
theorem rp_ty {K : PySem.W.Frag} {M H : Hp} {v : V} {d : PyData} (r : Rp M v d) (m : ∀ b o, M b = some o → H b = some o) (hd : ∀ kvs, d ≠ .dict kvs) : TyX K H v (.type (tyD d)) := by
  cases r with
  | non => exact .base .non
  | bl b => exact .base (.bl b)
  | int i => exact .base (.int i)
  | str s => exact .base (.str s)
  | lst h _ => exact .base (.lst (m _ _ h))
  | tup h _ => exact .base (.tup (m _ _ h))
  | hnd a => exact absurd rfl (hd _)
/-- what is told, as data, no handle -/
def DV.datN : DV → Option PyData
  | .d (.dict _) => none
  | .d x => some x
  | .own ds => some (.list ds)
  | _ => none
theorem datN_dat {r : DV} {d : PyData} (h : r.datN = some d) : r.dat = some d ∧ ∀ kvs, d ≠ .dict kvs := by
  cases r with
  | d x => cases x <;> cases h <;> exact ⟨rfl, fun _ z => by cases z⟩
  | own ds => cases h; exact ⟨rfl, fun _ z => by cases z⟩
  | _ => cases h
def dIsi (T : String) (f : DF) : DF := fun ρ n Q => f ρ n fun r n1 => ∃ d, r.datN = some d ∧ Q (.d (.bool (isiB T d))) n1
theorem pdIsi {X : Cx} {c e : Expr} {p pos : Pos} {T : String} {f : DF} (hT : isiOk T) (hm : X.mg "isinstance" = none) (hg : Gl X "isinstance") (hc : PE X c (tC (.ty T))) (he : PE X e (tD f))
    (hs : starEach (e :: [c]) X.env = (false, eval e X.env) :: starEach [c] X.env := by rfl) (hpl : (backTo pos (starEach [c] X.env)).any (·.1) = false := by rfl) (hs2 : starEach [c] X.env = (false, eval c X.env) :: starEach [] X.env := by rfl) :
    PE X (.Call (.Name "isinstance" p) [e, c] [] pos) (tD (dIsi T f)) := (pe_callB call_isi hg hm (by decide +kernel) (pa_cons he (pa_cons hc pa_nil hs2) hs) (by decide) (by decide) hs hpl).imp fun σ H Q ⟨c, A, n, ρ, Q', E, hf, k⟩ => by
  refine ⟨c, A, n, ρ, _, E, hf, fun v r n1 H1 ⟨d, ed, hq⟩ f1 o1 => ?_⟩
  obtain ⟨ed, nd⟩ := datN_dat ed
  have rp := o1.dat E ed
  have ty := rp_ty (K := X.K) (H := H1) rp (fun b o h => (msk_some h).2) nd
  exact ⟨v, .ty T, _, _, _, rfl, .ty T, ty, kit_d hT nd, k _ _ n1 H1 hq f1.fr (Rp.bl _)⟩
/-- a statement, then the rest from a word between them -/
def dCut (F G : DS) : DS := fun E ρ n => ∃ Mid : List DV → Fam.S → Prop, F { E with nx := Mid } ρ n ∧ ∀ ρ n, Mid ρ n → G E ρ n
theorem psCut {X : Cx} {st : Stmt} {rest : List Stmt} {F G : DS} (h : PS X st (sD F)) (h2 : PSs X rest (sD G)) : PSs X (st :: rest) (sD (dCut F G)) := (pss_cons h h2).imp fun D σ H ⟨c, A, n, ρ, E, e, ⟨Mid, hF, hG⟩, L⟩ =>
  ⟨c, A, n, ρ, _, e, hF, fun A n σ H ρ h e' => ⟨c, A, n, ρ, E, e', hG ρ n h, L⟩, L.rt, L.bk, L.ct⟩
theorem mul_big {a b : Int} (ha : a.natAbs < 2 ^ 400) (hb : b.natAbs < 2 ^ 400) : CMulW a b := wide_mul (a := 400) (b := 400) ha hb (by decide) (by decide) (by decide)
end

/-! ### data readings: looks at one's own in tests; pop within an expression -/
section
variable [Fam] [Tabz]
def dPkT (t : DT) : DT := fun ρ n Q => t (coldD ρ) n Q
theorem ptPk [Quiet] {X : Cx} {e : Expr} {t : DT} (h : PT X e (tDT t)) : PT X e (tDT (dPkT t)) := h.imp fun σ H Q ⟨c, A, n, ρ, Q', E, hf, k⟩ => by
  obtain ⟨A', E'⟩ := E.colds
  exact ⟨c, A', n, _, _, E', hf, fun b n' H' hq f => k b n' H' hq ⟨f.1, c.Gq f.2⟩⟩
/-- an expression that changes one's own: what is told is data -/
abbrev DX := List DV → Fam.S → (PyData → List DV → Fam.S → Prop) → Prop
def tX (f : DX) : TE := fun σ H Q => ∃ (c : EC) (A : Nat → Option Addr) (n : Fam.S) (ρ : List DV) (Q' : PyData → List DV → Fam.S → Prop), EnvA c A n σ H ρ ∧ f ρ n Q' ∧
  ∀ v x ρ' n' H', Q' x ρ' n' → EnvA c A n' σ H' ρ' → Rp (msk (c.av n' A) H') v x → Xt (msk (c.av n A) H) (msk (c.av n' A) H') → Q v H'
/-- xs.pop() -/
def xPop (i : Nat) : DX := fun ρ n Q => ∃ ds d, ρ[i]? = some (.own (ds ++ [d])) ∧ Q d (ρ.set i (.own ds)) n
theorem msk_upd {B : Addr → Prop} {H : Hp} {a : Addr} {o : HO} (h : B a) : msk B (upd H a o) = msk B H := by
  funext b
  by_cases z : B b
  · unfold msk
    rw [if_pos z, if_pos z]
  · rw [msk_out z, msk_out z, upd_ne (fun e => z (by rw [e]; exact h))]
theorem RpA.split {M : Hp} : ∀ {vs : List V} {ds : List PyData} {d : PyData}, RpA M vs (ds ++ [d]) → ∃ ws w, vs = ws ++ [w] ∧ RpA M ws ds ∧ Rp M w d
  | _, [], d, h => by
    cases h with
    | cons r t =>
      cases t
      exact ⟨[], _, rfl, .nil, r⟩
  | _, e :: ds, d, h => by
    cases h with
    | cons r t =>
      obtain ⟨ws, w, e1, h1, h2⟩ := RpA.split t
      exact ⟨_ :: ws, w, by rw [e1]; rfl, .cons r h1, h2⟩
theorem pxPop {X : Cx} {i : Nat} {e : Expr} (h : PE X e (tBM0 X.K "list" rPop (tVar i))) : PE X e (tX (xPop i)) := h.imp fun σ H Q ⟨c, A, n, ρ, Q', E, ⟨ds, d, e1, hq⟩, k⟩ => by
  obtain ⟨a, vs, h1, h2, h3, h4⟩ := E.slot i _ e1
  obtain ⟨ws, w, e2, r1, r2⟩ := h4.split
  subst e2
  refine ⟨_, h2, .inl ⟨rfl, _, SqL.of h3⟩, a, _, w, rfl, rfl, h3, by simp, ?_⟩
  have av : c.av n A a := .inr ⟨i, h1⟩
  have dl : (ws ++ [w]).dropLast = ws := by simp
  rw [dl]
  refine k w d _ n _ hq (E.mut h1 h3 (.inl ⟨_, rfl⟩) (fun ps z => by cases z) ⟨a, ws, h1, h2, upd_same, r1⟩ fun _ => rfl) ?_ ?_
  · rw [msk_upd av]
    exact r2
  · rw [msk_upd av]
    exact fun b o _ z => z
def xIx (op : PyData → PyData → Option DV) (f : DX) (g : DF) : DX := fun ρ n Q => f ρ n fun x ρ1 n1 => g ρ1 n1 fun y n2 => ∃ b, y.dat = some b ∧ ∃ z, op x b = some (.d z) ∧ Q z ρ1 n2
theorem pxIx {X : Cx} {r : R2} {op : PyData → PyData → Option DV} {a b : Expr} {f : DX} {g : DF} {pos : Pos} (hd : R2D r op) (hr : IxR X r) (ha : PE X a (tX f)) (hb : PE X b (tD g)) (hs : PlainIx b) : PE X (.Subscript a b pos) (tX (xIx op f g)) := (pe_ix hr ha hb hs).imp fun σ H Q ⟨c, A, n, ρ, Q', E, hf, k⟩ => by
  refine ⟨c, A, n, ρ, _, E, hf, fun v x ρ1 n1 H1 hg E1 rv s1 => ⟨c, A, n1, ρ1, _, E1, hg, fun w y n2 H2 ⟨bd, eb, z, ez, hq⟩ f2 o2 => ?_⟩⟩
  have E2 := E1.fr f2
  refine hd c.t (c.av n2 A) H2 v w x bd (.d z) Q (fun b hb => (E2.there hb).imp fun o h => h.1) (rv.ex f2.msk) (o2.dat E1 eb) ez fun u H3 s3 o3 => ?_
  have f3 : Fr c A n2 n2 H2 H3 := Fr.same E2.g s3
  exact k u z ρ1 n2 H3 hq (E2.fr f3) o3 fun b o nt h => f3.msk b o nt (f2.msk b o nt (s1 b o nt h))
def xOp (op : PyData → PyData → Option DV) (f : DF) (g : DX) : DX := fun ρ n Q => f ρ n fun x n1 => ∃ a, x.dat = some a ∧ g ρ n1 fun b ρ2 n2 => ∃ z, op a b = some (.d z) ∧ Q z ρ2 n2
theorem pxOp {X : Cx} {o : Operator} {r : R2} {op : PyData → PyData → Option DV} {a b : Expr} {f : DF} {g : DX} {pos : Pos} (hd : R2D r op) (ho : OpR X (binaryOp o) r) (ha : PE X a (tD f)) (hb : PE X b (tX g)) : PE X (.BinOp a o b pos) (tX (xOp op f g)) := (pe_op ho ha hb).imp fun σ H Q ⟨c, A, n, ρ, Q', E, hf, k⟩ => by
  refine ⟨c, A, n, ρ, _, E, hf, fun v x n1 H1 ⟨ad, ea, hg⟩ f1 o1 => ⟨c, A, n1, ρ, _, E.fr f1, hg, fun w bd ρ2 n2 H2 ⟨z, ez, hq⟩ E2 rw2 s2 => ?_⟩⟩
  refine hd c.t (c.av n2 A) H2 v w ad bd (.d z) Q (fun b hb => (E2.there hb).imp fun o h => h.1) ((o1.dat E ea).ex s2) rw2 ez fun u H3 s3 o3 => ?_
  have f3 : Fr c A n2 n2 H2 H3 := Fr.same E2.g s3
  exact k u z ρ2 n2 H3 hq (E2.fr f3) o3 fun b o nt h => f3.msk b o nt (s2 b o nt (f1.msk b o nt h))
/-- (e,), (e, f) -/
def xTup (f : DX) (g : DA) : DX := fun ρ n Q => f ρ n fun x ρ1 n1 => g ρ1 n1 fun rs n2 => ∃ ds, datsOf rs = some ds ∧ ds.length ≤ 1000 ∧ Q (.tuple (x :: ds)) ρ1 n2
theorem pxTup {X : Cx} {e : Expr} {es : List Expr} {f : DX} {g : DA} {pos : Pos} {x1} (h : PE X e (tX f)) (hr : PA X es (tDA g)) (hs : starEach (e :: es) X.env = (false, eval e X.env) :: starEach es X.env := by rfl) : PE X (.Tuple (e :: es) x1 pos) (tX (xTup f g)) := (pe_tup (pa_cons h hr hs)).imp fun σ H Q ⟨c, A, n, ρ, Q', E, hf, k⟩ => by
  refine ⟨c, A, n, ρ, _, E, hf, fun v x ρ1 n1 H1 hg E1 rv s1 => ⟨c, A, n1, ρ1, _, E1, hg, fun vs rs n2 H2 ⟨ds, ed, hl, hq⟩ f2 o2 => ?_⟩⟩
  have r2 := o2.dats E1 ed
  have E2 := E1.fr f2
  refine ⟨big_line (by show vs.length + 1 ≤ 100000; rw [r2.length]; omega), fun p hp => ?_⟩
  have f3 : Fr c A n2 n2 H2 (upd H2 p (.tup (v :: vs))) := Fr.new E2.g hp
  exact k _ _ ρ1 n2 _ hq (E2.fr f3) (tup_new E2 hp (.cons (rv.ex f2.msk) r2)) fun b o nt h => f3.msk b o nt (f2.msk b o nt (s1 b o nt h))
/-- y = e, e changes one's own -/
def dSetX (i : Nat) (f : DX) : DS := fun E ρ n => f ρ n fun x ρ1 n1 => i < ρ1.length ∧ E.nx (ρ1.set i (.d x)) n1
theorem psSetX {X : Cx} {i : Nat} {x : Str} {e : Expr} {f : DX} {pos' pos : Pos} (hN : X.N.Nodup) (hi : X.N[i]? = some x) (hx : Loc X.env.scope x) (he : PE X e (tX f)) (hs : swapsWith e (some (.Name x pos')) pos.line X.env = pure false := by rfl) (hf : X.fn x = true ∨ X.env.scope.names.lookup x = some .local := by first | exact .inl rfl | exact .inr rfl | assumption) :
    PS X (.Assign [.Name x pos'] e pos) (sD (dSetX i f)) := (ps_set hN hi hx he hs hf).imp fun D σ H ⟨c, A, n, ρ, E, e, hf, L⟩ =>
  ⟨c, A, n, ρ, _, e, hf, fun v x ρ1 n1 H1 ⟨hi, h1⟩ E1 rv _ => L.nx _ _ _ _ _ h1 (E1.putD rv hi)⟩
end

/-! ### data readings: a dict of one's own, keys ints or texts -/
section
variable [Fam] [Tabz]
theorem hu_of {k : Nat} {A : Around} (hr : Room k A) : A.units + 1 < cLine := by
  have := hr.un
  omega
def kD : Key → PyData
  | .inl i => .int i
  | .inr x => .str x
def valD (kvs : List (Key × PyData)) (k : Key) : Option PyData := (kvs.find? fun kv => decide (kv.1 = k)).map (·.2)
def putKD (kvs : List (Key × PyData)) (k : Key) (d : PyData) : List (Key × PyData) := if (kvs.any fun kv => decide (kv.1 = k)) = true then kvs.map fun kv => if kv.1 = k then (kv.1, d) else kv else kvs ++ [(k, d)]
theorem kD_kV {M : Hp} {v : V} {k : Key} (h : Rp M v (kD k)) : v = kV k := by
  cases k with
  | inl i => cases h; rfl
  | inr x => cases h; rfl
theorem kV_kD {M : Hp} (k : Key) : Rp M (kV k) (kD k) := by
  cases k with
  | inl i => exact .int i
  | inr x => exact .str x
theorem KRp.val {M : Hp} {ws : List (Key × V)} {kvs : List (Key × PyData)} (r : KRp M ws kvs) (k : Key) : (valV ws k = none ∧ valD kvs k = none) ∨ ∃ v d, valV ws k = some v ∧ valD kvs k = some d ∧ Rp M v d := by
  induction r with
  | nil => exact .inl ⟨rfl, rfl⟩
  | @cons j v d ws kvs h _ ih =>
    unfold valV valD at ih ⊢
    rw [List.find?_cons, List.find?_cons]
    by_cases q : j = k
    · rw [decide_eq_true q]
      exact .inr ⟨v, d, rfl, rfl, h⟩
    · rw [decide_eq_false q]
      exact ih
theorem KRp.length {M : Hp} {ws : List (Key × V)} {kvs : List (Key × PyData)} (r : KRp M ws kvs) : ws.length = kvs.length := by
  induction r with
  | nil => rfl
  | cons _ _ ih => exact congrArg Nat.succ ih
theorem KRp.put {M : Hp} {ws : List (Key × V)} {kvs : List (Key × PyData)} (r : KRp M ws kvs) {k : Key} {v : V} {d : PyData} (h : Rp M v d) : KRp M (putK ws k v) (putKD kvs k d) := by
  have ha : (ws.any fun kv => decide (kv.1 = k)) = kvs.any fun kv => decide (kv.1 = k) := by
    induction r with
    | nil => rfl
    | cons _ _ ih => rw [List.any_cons, List.any_cons, ih]
  unfold putK putKD
  rw [ha]
  split
  · rename_i hq; clear hq ha
    induction r with
    | nil => exact .nil
    | @cons j v0 d0 ws kvs h0 _ ih =>
      rw [List.map_cons, List.map_cons]
      by_cases q : j = k
      · rw [if_pos (show (j, v0).1 = k from q), if_pos (show (j, d0).1 = k from q)]
        exact .cons h ih
      · rw [if_neg (show ¬ (j, v0).1 = k from q), if_neg (show ¬ (j, d0).1 = k from q)]
        exact .cons h0 ih
  · rename_i hq; clear hq ha
    induction r with
    | nil => exact .cons h .nil
    | cons h0 _ ih => exact .cons h0 ih
theorem valD_put (kvs : List (Key × PyData)) (k j : Key) (d : PyData) : valD (putKD kvs k d) j = if j = k then some d else valD kvs j := by
  have hany : ∀ l : List (Key × PyData), (l.any fun kv => decide (kv.1 = k)) = false → valD l k = none := fun l => by
    induction l with
    | nil => intro _; rfl
    | cons p l ih =>
      intro h
      rw [List.any_cons, Bool.or_eq_false_iff] at h
      unfold valD at ih ⊢
      rw [List.find?_cons, h.1]
      exact ih h.2
  have hmap : ∀ l : List (Key × PyData), (l.any fun kv => decide (kv.1 = k)) = true → valD (l.map fun kv => if kv.1 = k then (kv.1, d) else kv) j = if j = k then some d else valD l j := fun l => by
    induction l with
    | nil => intro h; cases h
    | cons p l ih =>
      intro h
      rw [List.any_cons] at h
      unfold valD at ih ⊢
      rw [List.map_cons, List.find?_cons, List.find?_cons]
      by_cases q : p.1 = k
      · rw [if_pos q]
        by_cases z : j = k
        · subst z
          rw [if_pos rfl]
          simp [q]
        · rw [if_neg z]
          have z1 : ¬ p.1 = j := fun e => z (e.symm.trans q)
          simp only [decide_eq_false z1]
          by_cases ha : (l.any fun kv => decide (kv.1 = k)) = true
          · have := ih ha
            rw [if_neg z] at this
            exact this
          · have hm : (l.map fun kv => if kv.1 = k then (kv.1, d) else kv) = l := by
              have : ∀ m : List (Key × PyData), (m.any fun kv => decide (kv.1 = k)) = false → (m.map fun kv => if kv.1 = k then (kv.1, d) else kv) = m := fun m => by
                induction m with
                | nil => intro _; rfl
                | cons x m ihm =>
                  intro hx
                  rw [List.any_cons, Bool.or_eq_false_iff] at hx
                  rw [List.map_cons, ihm hx.2, if_neg (of_decide_eq_false hx.1)]
              exact this l ((Bool.not_eq_true _).mp ha)
            rw [hm]
      · rw [if_neg q]
        have ha : (l.any fun kv => decide (kv.1 = k)) = true := by
          rw [decide_eq_false q, Bool.false_or] at h
          exact h
        by_cases z1 : p.1 = j
        · have z : ¬ j = k := fun e => q (z1.trans e)
          rw [if_neg z]
          simp [decide_eq_true z1]
        · simp only [decide_eq_false z1]
          exact ih ha
  unfold putKD
  split
  · rename_i h
    exact hmap kvs h
  · rename_i h
    have h' : (kvs.any fun kv => decide (kv.1 = k)) = false := (Bool.not_eq_true _).mp h
    have hk := hany kvs h'
    unfold valD at hk ⊢
    rw [List.find?_append]
    by_cases z : j = k
    · subst z
      rw [if_pos rfl]
      have : kvs.find? (fun kv => decide (kv.1 = j)) = none := by simpa using hk
      rw [this]
      simp
    · rw [if_neg z]
      have z' : ¬ k = j := fun e => z e.symm
      simp [z']
theorem putKD_len (kvs : List (Key × PyData)) (k : Key) (d : PyData) : (putKD kvs k d).length ≤ kvs.length + 1 := by
  unfold putKD
  split
  · rw [List.length_map]; omega
  · rw [List.length_append]; exact Nat.le_refl _
theorem dic_new {c : EC} {A : Nat → Option Addr} {n : Fam.S} {σ : L2.St} {H : Hp} {ρ : List DV} (E : EnvA c A n σ H ρ) {p : Addr} {ws : List (Key × V)} {kvs : List (Key × PyData)} (hp : H p = none) (h : KRp (msk (c.av n A) H) ws kvs) : VOk c.t (c.av n A) H (.ref p) (upd H p (.dK ws)) (.dic kvs) := by
  refine ⟨p, ws, rfl, ⟨.of hp, E.apart (.of hp)⟩, upd_same, h.ex fun b o _ e => ?_⟩
  obtain ⟨h1, h2⟩ := msk_some e
  have ne : b ≠ p := ne_of_none h2 hp
  rw [msk_out (fun z => z.elim h1 ne), upd_ne ne]
  exact h2
/-- {} -/
def dDNew : DF := fun _ n Q => Q (.dic []) n
theorem pdDNew {X : Cx} {e : Expr} (h : PE X e tDNewK) : PE X e (tD dDNew) := h.imp fun σ H Q ⟨c, A, n, ρ, Q', E, hf, k⟩ => by
  intro p hp
  have o := dic_new (ws := []) (kvs := []) E hp .nil
  exact k (.ref p) _ n _ hf (FrV.same E.g (same_new hp) o) o
/-- d.get(k, x) -/
def dDGet2 (i : Nat) (f g : DF) : DF := fun ρ n Q => (∃ kvs, ρ[i]? = some (.dic kvs)) ∧ f ρ n fun x n1 => ∃ k : Key, x = .d (kD k) ∧ g ρ n1 fun y n2 => ∃ kvs, ρ[i]? = some (.dic kvs) ∧ ∃ z, y.dat = some z ∧ Q (.d ((valD kvs k).getD z)) n2
theorem pdDGet2 {X : Cx} {o e f : Expr} {apos cpos : Pos} {i : Nat} {fe ff : DF} (hu : X.A.units + 1 < cLine) (ho : PE X o (tVar i)) (he : PE X e (tD fe)) (hf : PE X f (tD ff)) (m : M2 X o "get" apos e f cpos) : PE X (.Call (.Attribute o "get" apos) [e, f] [] cpos) (tD (dDGet2 i fe ff)) := (pe_dget2 hu ho he hf m).imp fun σ H Q ⟨c, A, n, ρ, Q', E, ⟨⟨kvs0, e0⟩, hf⟩, k⟩ => by
  obtain ⟨a, ws, h1, h2, h3, h4⟩ := E.slot i _ e0
  refine ⟨_, h2, a, rfl, .inl ⟨ws, .inl h3⟩, c, A, n, ρ, _, E, hf, fun v x n1 H1 ⟨key, ex, hg⟩ f1 o1 => ⟨c, A, n1, ρ, _, E.fr f1, hg, fun w y n2 H2 ⟨kvs, e1, z, ez, hq⟩ f2 o2 => ?_⟩⟩
  subst ex
  have E2 := (E.fr f1).fr f2
  obtain ⟨a', ws', k1, k2, k3, k4⟩ := E2.slot i _ e1
  rw [h1] at k1
  cases k1
  obtain rfl := kD_kV (show Rp _ v (kD key) from o1)
  refine ⟨valV ws' key, .inl ⟨ws', key, .inl k3, rfl, rfl⟩, ?_⟩
  rcases k4.val key with ⟨q1, q2⟩ | ⟨u, d, q1, q2, rp⟩
  · rw [q2] at hq
    rw [q1]
    exact k w _ n2 H2 hq (f1.trans f2.fr) (o2.dat (E.fr f1) ez)
  · rw [q2] at hq
    rw [q1]
    exact k u _ n2 H2 hq (f1.trans f2.fr) rp
/-- d[k] -/
def dDIx (i : Nat) (f : DF) : DF := fun ρ n Q => (∃ kvs, ρ[i]? = some (.dic kvs)) ∧ f ρ n fun x n1 => ∃ k : Key, x = .d (kD k) ∧ ∃ kvs, ρ[i]? = some (.dic kvs) ∧ ∃ z, valD kvs k = some z ∧ Q (.d z) n1
theorem pdDIx {X : Cx} {o e : Expr} {pos : Pos} {i : Nat} {fe : DF} (h : PE X (.Subscript o e pos) (tDGet (tVar i) (tD fe))) : PE X (.Subscript o e pos) (tD (dDIx i fe)) := h.imp fun σ H Q ⟨c, A, n, ρ, Q', E, ⟨⟨kvs0, e0⟩, hf⟩, k⟩ => by
  obtain ⟨a, ws, h1, h2, h3, h4⟩ := E.slot i _ e0
  refine ⟨_, h2, c, A, n, ρ, _, E, hf, fun v x n1 H1 ⟨key, ex, kvs, e1, z, ez, hq⟩ f1 o1 => ?_⟩
  subst ex
  have E1 := E.fr f1
  obtain ⟨a', ws', k1, k2, k3, k4⟩ := E1.slot i _ e1
  rw [h1] at k1
  cases k1
  obtain rfl := kD_kV (show Rp _ v (kD key) from o1)
  rcases k4.val key with ⟨q1, q2⟩ | ⟨u, d, q1, q2, rp⟩
  · rw [q2] at ez
    cases ez
  · rw [q2] at ez
    cases ez
    exact ⟨a, u, rfl, .inl ⟨ws', key, .inl k3, rfl, q1.symm⟩, k u _ n1 H1 hq f1.fr rp⟩
/-- k in d -/
def dDIn (neg : Bool) (i : Nat) (f : DF) : DF := fun ρ n Q => (∃ kvs, ρ[i]? = some (.dic kvs)) ∧ f ρ n fun x n1 => ∃ k : Key, x = .d (kD k) ∧ ∃ kvs, ρ[i]? = some (.dic kvs) ∧ Q (.d (.bool (if neg then !(valD kvs k).isSome else (valD kvs k).isSome))) n1
/-- d[k] = x -/
def dDPut (i : Nat) (f g : DF) : DS := fun E ρ n => (∃ kvs, ρ[i]? = some (.dic kvs)) ∧ g ρ n fun y n1 => f ρ n1 fun x n2 => ∃ k : Key, x = .d (kD k) ∧ ∃ z, y.dat = some z ∧ ∃ kvs, ρ[i]? = some (.dic kvs) ∧ kvs.length < 100000 ∧ E.nx (ρ.set i (.dic (putKD kvs k z))) n2
theorem psDPut {X : Cx} {o e value : Expr} {pos pos' : Pos} {i : Nat} {fe fv : DF} (hu : X.A.units + 1 < cLine) (ho : PE X o (tVar i)) (he : PE X e (tD fe)) (hv : PE X value (tD fv)) (hs : swapsWith value (some (.Subscript o e pos')) pos.line X.env = pure false := by rfl) :
    PS X (.Assign [.Subscript o e pos'] value pos) (sD (dDPut i fe fv)) := (ps_dput hu ho he hv hs).imp fun D σ H ⟨c, A, n, ρ, E, e, ⟨⟨kvs0, e0⟩, hf⟩, L⟩ => by
  refine ⟨c, A, n, ρ, _, e, hf, fun v y n1 H1 hg f1 o1 => ?_⟩
  have E1 := e.fr f1
  obtain ⟨a, ws, h1, h2, h3, h4⟩ := E1.slot i _ e0
  refine ⟨_, h2, c, A, n1, ρ, _, E1, hg, fun w x n2 H2 ⟨key, ex, z, ez, kvs, e1, hl, hn⟩ f2 o2 => ?_⟩
  subst ex
  have E2 := E1.fr f2
  obtain ⟨a', ws', k1, k2, k3, k4⟩ := E2.slot i _ e1
  rw [h1] at k1
  cases k1
  obtain rfl := kD_kV (show Rp _ w (kD key) from o2)
  have rv : Rp (msk (c.av n2 A) H2) v z := (o1.dat e ez).ex f2.msk
  refine ⟨a, _, rfl, .inl ⟨ws', key, k3, rfl, big_lt (by rw [k4.length]; exact hl), rfl⟩, ?_⟩
  exact L.nx _ _ _ _ _ hn (E2.mut h1 k3 (.inr ⟨_, rfl⟩) (fun ps z => by cases z) ⟨a, _, h1, k2, upd_same, k4.put rv⟩ fun _ => rfl)
end

/-! ### dict([(k, v), ..]) of pairs whose keys are ints or texts -/
section
variable [Fam] [Tabz]
def pairK (q : Key × PyData) : PyData := .tuple [kD q.1, q.2]
def mergeD (kvs more : List (Key × PyData)) : List (Key × PyData) := more.foldl (fun acc kv => putKD acc kv.1 kv.2) kvs
theorem KRp.merge {M : Hp} {more : List (Key × V)} {ds : List (Key × PyData)} (r : KRp M more ds) : ∀ {ws : List (Key × V)} {kvs : List (Key × PyData)}, KRp M ws kvs → KRp M (mergeK ws more) (mergeD kvs ds) := by
  induction r with
  | nil => intro ws kvs h; exact h
  | cons h _ ih => intro ws kvs q; exact ih (q.put h)
theorem pairs_rp {M : Hp} : ∀ {vs : List V} {ds : List (Key × PyData)}, RpA M vs (ds.map pairK) → ∃ (ps : List Addr) (kvs : List (Key × V)), vs = ps.map V.ref ∧ KRp M kvs ds ∧ Paired (fun p kv => M p = some (.tup [kV kv.1, kv.2])) ps kvs
  | _, [], h => by
    cases h
    exact ⟨[], [], rfl, .nil, .nil⟩
  | _, (k, d) :: ds, h => by
    cases h with
    | cons r t =>
      obtain ⟨ps, kvs, e, h1, h2⟩ := pairs_rp t
      cases r with
      | @tup a xs _ g1 g2 =>
        cases g2 with
        | cons r1 t1 => cases t1 with
          | cons r2 t2 =>
            cases t2
            have ek := kD_kV r1
            subst ek
            exact ⟨a :: ps, (k, _) :: kvs, by rw [e]; rfl, .cons r2 h1, .cons g1 h2⟩
def dDictP (f : DF) : DF := fun ρ n Q => f ρ n fun r n1 => ∃ ds : List (Key × PyData), r.dat = some (.list (ds.map pairK)) ∧ Q (.dic (mergeD [] ds)) n1
theorem pdDictP {X : Cx} {e : Expr} {f : DF} (h : PE X e (tCB (fun xs H Q => ∃ (a : Addr) (ps : List Addr) (kvs : List (Key × V)), xs = [.ref a] ∧ SqL X.K H a (ps.map V.ref) ∧ Paired (fun p kv => SqT X.K H p [kV kv.1, kv.2]) ps kvs ∧
    ∀ p, H p = none → Q (.ref p) (upd H p (.dK (mergeK [] kvs)))) (tCons (tD f) tNil))) : PE X e (tD (dDictP f)) := h.imp fun σ H Q ⟨c, A, n, ρ, Q', E, hf, k⟩ => by
  refine ⟨c, A, n, ρ, _, E, hf, fun v r n1 H1 ⟨ds, ed, hq⟩ f1 o1 => ?_⟩
  have rp := o1.dat E ed
  have E1 := E.fr f1
  cases rp with
  | @lst l xs _ h1 h2 =>
    obtain ⟨ps, kvs, e1, hk, hp⟩ := pairs_rp h2
    subst e1
    have up : ∀ {ps : List Addr} {kvs : List (Key × V)}, Paired (fun p kv => msk (c.av n1 A) H1 p = some (.tup [kV kv.1, kv.2])) ps kvs → Paired (fun p kv => SqT X.K H1 p [kV kv.1, kv.2]) ps kvs := fun {ps kvs} h => by
      induction h with
      | nil => exact .nil
      | cons a _ ih => exact .cons (SqT.of (msk_some a).2) ih
    refine ⟨l, ps, kvs, rfl, SqL.of (msk_some h1).2, up hp, fun p np => ?_⟩
    have o := dic_new E1 np (hk.merge (ws := []) (kvs := []) .nil)
    exact k _ _ n1 _ hq (f1.trans (FrV.same E1.g (same_new np) o)) (VOk.mono E f1 o)
theorem merge_val : ∀ (ds : List (Key × PyData)) (acc : List (Key × PyData)), (ds.map (·.1)).Nodup → (∀ k v, (k, v) ∈ ds → valD (mergeD acc ds) k = some v) ∧ ∀ k, k ∉ ds.map (·.1) → valD (mergeD acc ds) k = valD acc k
  | [], acc, _ => ⟨fun k v h => (by cases h), fun k _ => rfl⟩
  | (k0, v0) :: ds, acc, h => by
    obtain ⟨h1, h2⟩ := List.nodup_cons.mp h
    obtain ⟨a, b⟩ := merge_val ds (putKD acc k0 v0) h2
    refine ⟨fun k v hm => ?_, fun k hk => ?_⟩
    · rcases List.mem_cons.mp hm with e | e
      · cases e
        show valD (mergeD (putKD acc k0 v0) ds) k0 = _
        rw [b k0 h1, valD_put, if_pos rfl]
      · exact a k v e
    · have hk' := fun z => hk (List.mem_cons.mpr z)
      show valD (mergeD (putKD acc k0 v0) ds) k = _
      rw [b k fun z => hk' (.inr z), valD_put, if_neg fun z => hk' (.inl z)]
theorem mergeD_len : ∀ (ds acc : List (Key × PyData)), (mergeD acc ds).length ≤ acc.length + ds.length
  | [], acc => Nat.le_refl _
  | q :: ds, acc => by
    have := mergeD_len ds (putKD acc q.1 q.2)
    have := putKD_len acc q.1 q.2
    show (mergeD (putKD acc q.1 q.2) ds).length ≤ acc.length + (ds.length + 1)
    omega
end

/-! ### calls with keywords, by the number of values -/
section
variable [Fam] [Tabz]
/-- a call with keywords, by the number of values (KBn) -/
theorem vsOk_len {t : V} {B : Addr → Prop} {H H' : Hp} : ∀ {vs : List V} {rs : List DV}, VsOk t B H H' vs rs → vs.length = rs.length
  | _, _, .nil => rfl
  | _, _, .cons _ _ q => congrArg Nat.succ (vsOk_len q)
def dCallN (a b : Nat) (m : DM) (gD : List DV → List DV → List DV) (g h : DA) : DF := fun ρ n Q => g ρ n fun rs n1 => h ρ n1 fun ks n2 => (rs.length = a ∧ ks.length = b) ∧ plainR (gD rs ks) ∧ m (gD rs ks) n2 Q
theorem callN_le {a b : Nat} {m : DM} {gV : List V → List V → List V} {gD : List DV → List DV → List DV} {g h : DA} (hk : KwOk gV gD) (E0 : XK) (σ : L2.St) (H : Hp) (Q : VK) (q : tD (dCallN a b m gD g h) σ H Q) : tCallN a b (spD m) gV E0 (tDA g) (tDA h) σ H Q := by
  obtain ⟨c, A, n, ρ, Q', E, hf, k⟩ := q
  refine ⟨c, A, n, ρ, _, E, hf, fun vs rs n1 H1 h1 f1 o1 => ⟨c, A, n1, ρ, _, E.fr f1, h1, fun zs ks n2 H2 ⟨⟨l1, l2⟩, pl, hm⟩ f2 o2 => ?_⟩⟩
  have E2 := (E.fr f1).fr f2
  refine ⟨(vsOk_len o1).trans l1, (vsOk_len o2).trans l2, ?_⟩
  have oa : VsOk c.t (c.av n2 A) H H2 (gV vs zs) (gD rs ks) := hk _ _ _ _ _ _ _ _ (o1.later E f1 f2) (o2.mono E f1)
  refine ⟨E2.ec, n2, gD rs ks, Q', rfl, rfl, by rw [E2.ec_B]; exact E2.g, rfl, by rw [E2.ec_B]; exact VsOk.now (m := n2) E oa pl, hm, fun v r n' H' hq f3 o3 => ?_⟩
  rw [E2.ec_B] at o3
  exact k v r n' H' hq ((f1.trans f2).trans (E2.ec_fr f3)) (VOk.mono E (f1.trans f2) o3)
theorem pdCallN {X : Cx} {CX : CXT} {k n : Nat} {f : Addr} {fd : FuncData} {ps ks : List Str} {gW : List Value → List Value → List Value} {gV : List V → List V → List V} {gD : List DV → List DV → List DV} {m : DM} {x : Str} {p pos : Pos} {e : Expr} {es : List Expr} {kws : List Keyword} {g h : DA} {E0 : XK} (hkw : KwOk gV gD) (F : FnOk X.prog X.w X.K X.mg X.base CX k f fd ps (spD m)) (hr : Room k X.A) (hg : Gl X x) (hm : X.mg x = some (.ref f)) (hk : PySem.W.keepIn X.K (.ref f) = true) (hb : KBn X.K fd ps n ks gW gV) (hx : Passes CX X E0)
    (ha : PA X (e :: es) (tDA g)) (hkws : PK X kws (tDA h)) (hall : (backToKw pos (keywordEach kws X.env)).all (·.1.isSome) = true := by rfl) (hks : (backToKw pos (keywordEach kws X.env)).filterMap (·.1) = ks := by rfl)
    (hdb : (x == ("__debug__" : Str)) = false := by decide) (he : starEach (e :: es) X.env = (false, eval e X.env) :: starEach es X.env := by rfl)
    (hpl : ((backTo pos (starEach (e :: es) X.env)).any (·.1) || (backToKw pos (keywordEach kws X.env)).any (·.1.isNone)) = false := by rfl) :
    PE X (.Call (.Name x p) (e :: es) kws pos) (tD (dCallN n ks.length m gD g h)) := (pe_callN F hr hg hm hk hb hx ha hkws hall hks hdb he hpl).imp (callN_le hkw E0)
theorem kw_app : KwOk (fun vs zs => vs ++ zs) (fun rs ks => rs ++ ks) := by
  intro t B H H' vs zs rs ks h1 h2
  induction h1 with
  | nil => exact h2
  | cons a b _ ih => exact .cons a b ih
end

/-! ### [h x for x in xs if p x] -/
section
variable [Fam] [Tabz]
theorem lcFM {g : DG} {t : DT} {h : DF} {vs : List Nat} {ρ : List DV} {n : Fam.S} {Q : DQ} {ds : List PyData} (p : PyData → Bool) (out : PyData → PyData) (own : (vs.all fun j => match ρ[j]? with | some x => !x.isOwn | none => false) = true) (big : ds.length ≤ 100000)
    (step : ∀ d, d ∈ ds → ∃ ρ', g d (wipeD ρ vs) = some ρ' ∧ (∀ R : Bool → Fam.S → Prop, R (p d) n → t ρ' n R) ∧ (p d = true → ∀ R : DQ, (∀ r, r.dat = some (out d) → R r n) → h ρ' n R)) (q : Q (.own ((ds.filter p).map out)) n) : LcOk g t h vs ρ Q ds n := by
  refine ⟨own, big, fun i acc m => m = n ∧ acc = ((ds.take i).filter p).map out, ⟨rfl, rfl⟩, ?_, ?_⟩
  · rintro i d acc m hd ⟨rfl, rfl⟩
    obtain ⟨ρ', e1, h1, h2⟩ := step d (List.mem_of_getElem? hd)
    refine ⟨ρ', e1, h1 _ ?_⟩
    have et : ((ds.take (i + 1)).filter p).map out = ((ds.take i).filter p).map out ++ if p d = true then [out d] else [] := by
      rw [List.take_succ, hd, List.filter_append, List.map_append]
      congr 1
      cases e : p d with
      | true => simp [e]
      | false => simp [e]
    cases e : p d with
    | true =>
      rw [if_pos rfl]
      refine h2 e _ fun r er => ⟨_, er, rfl, ?_⟩
      rw [et, e, if_pos rfl]
    | false =>
      rw [if_neg Bool.false_ne_true]
      refine ⟨rfl, ?_⟩
      rw [et, e, if_neg Bool.false_ne_true, List.append_nil]
  · rintro acc m ⟨rfl, rfl⟩
    rw [List.take_length] at *
    exact q
end

/-! ### tuple(xs) over data -/
section
variable [Fam] [Tabz]
def bTuple : List PyData → Option DV
  | [.list ds] => some (.d (.tuple ds))
  | [.tuple ds] => some (.d (.tuple ds))
  | _ => none
theorem rsTuple {K : PySem.W.Frag} : RsD (fun xs H Q => ∃ p ys, xs = [.ref p] ∧ ((SqL K H p ys ∧ ∀ l, H l = none → Q (.ref l) (upd H l (.tup ys))) ∨ (SqT K H p ys ∧ Q (.ref p) H))) bTuple := by
  intro t B H vs as z Q hB r e k
  cases r with
  | nil => cases e
  | cons r t =>
    cases t with
    | cons _ _ => cases r <;> cases e
    | nil =>
      cases r <;> cases e
      · rename_i h1 h2
        exact ⟨_, _, rfl, .inl ⟨SqL.of (msk_some h1).2, fun l hl => k _ _ (same_new hl) (new_tup hB hl h2)⟩⟩
      · rename_i h1 h2
        exact ⟨_, _, rfl, .inr ⟨SqT.of (msk_some h1).2, k _ H (fun _ _ h => h) (.tup h1 h2)⟩⟩
end

/-! ### set(xs), sorted(set(xs)), xs a list of ints -/
section
open PySem.Spec PyProof.Rows
variable {P : Program} {w : World} {A : Around} {E : Value → Shared → Prop} {s : Shared}
def nSet (w : World) : Obj := { cls := .type "set", dict := none, data := .set #[] 0 (.fresh 0 0 (!w.params.followText "set-order")) }
def sPush (w : World) (s : Shared) : Heap := s.heap.push (nSet w)
/-- what a new set of these ints leaves -/
def SetMade (w : World) (s : Shared) (ns : List Int) (s2 : Shared) : Prop := ∃ h2 t2 c, s2 = { s with heap := h2, toks := t2 } ∧ SetR w h2 s.heap.objs.size (fun j => decide (j ∈ ns)) c ∧ c ≤ ns.length ∧ ∀ b o, s.heap.get? b = some o → h2.get? b = some o
set_option maxRecDepth 100000 in
set_option maxHeartbeats 3200000 in
theorem call_set_ints {l : Addr} {us : Array Value} {ns : List Int} {Q : Value → Shared → Prop} (hA : A.handled = none) (hl : s.heap.IsList l us) (hu : IntsAre us.toList ns) (few : ns.length + 1 < scanBound)
    (k : ∀ s2, SetMade w s ns s2 → Q (.ref s.heap.objs.size) s2) : wpAny (model P w) A (call (.type "set") [.ref l]) Q E s := by
  have size_us : us.size = ns.length := by
    have z := IntsAre.length hu
    rwa [Array.length_toList] at z
  obtain ⟨mc, mt, hmro⟩ := F.called_set.mro
  have made := F.called_set.made
  have sub := F.called_set.sub
  have noT := F.called_set.notType
  have can := F.called_set.canCreate
  have tc := F.typeCall_set_1 (.ref l)
  refine wpAny_call (codeAny_of_tree ?_)
  show wpAny _ _ (callAny (.type "set") _) _ _ _
  refine wpAny_pure ⟨Code.quiet_builtin _ (by decide +kernel), codeAny_builtin F.entry_type_call ?_⟩
  rw [Around.under_plain (weight_type_call_type "set" [.ref l] []) rfl]
  repeat (any_goals (first | assumption | wp_step))
  refine codeAny_mono (code_set_led1 (.ref l) (E := E) (Q₁ := fun z s1 => z = .ref s.heap.objs.size ∧ s1 = { s with heap := sPush w s }) ⟨rfl, rfl⟩) fun r s1 hr => ?_
  cases r with
  | error e => exact hr
  | ok fl =>
    cases fl with
    | ret z =>
      obtain ⟨rfl, rfl⟩ := hr
      have at0 : (sPush w s).get? s.heap.objs.size = some (nSet w) := Heap.get?_push_size _ rfl
      have ty0 : Shared.TypeIs { s with heap := sPush w s } (.ref s.heap.objs.size) "set" := ⟨_, at0, rfl⟩
      have look := F.called_set.init.lookup
      have bind := F.called_set.init.bind (.ref s.heap.objs.size)
      repeat (any_goals (first | assumption | wp_step))
      refine codeAny_mono (codeAny_call_builtin (R := wants (fun r s2 => r = .none ∧ SetMade w s ns s2) E) F.called_set.init.plain F.entry_set_init (check_set_init_1 ty0 ?_)) fun r2 s2 hr2 => ?_
      · obtain ⟨ol, hol, hcl, nl, hdl⟩ := hl
        obtain ⟨ocls, odict, odata, oslots⟩ := ol
        simp only at hcl hdl
        subst hcl
        subst hdl
        have there := fun {b : Addr} {o : Obj} (e : s.heap.get? b = some o) => (Heap.get?_push_of_some (nSet w) e : (sPush w s).get? b = some o)
        have low : l < s.heap.objs.size := Heap.lt_size hol
        have big : (sPush w s).objs.size = s.heap.objs.size + 1 := Heap.size_push ..
        have lst1 : (sPush w s).IsList l us := ⟨_, there hol, rfl, nl, rfl⟩
        have sub1 := F.sub_list_set
        have sub2 := F.sub_list_frozenset
        have nd : (Value.type "list" == Value.type "dict") = false := by decide
        have thl := there hol
        unfold Builtin.«set.__init__» noKeywords Builtin.Frozenset.updateFrom
        generalize hPI : pyIter = PI
        wp_walk
        subst hPI
        refine wpAny_pyIter_list lst1 ?_
        refine wpAny_bind (wpAny_runValue ?_)
        have hA3 : A.in1.in1.in1.handled = none := by simp [hA]
        have ne1 : l ≠ (sPush w s).objs.size := by rw [big]; exact Nat.ne_of_lt (Nat.lt_succ_of_lt low)
        have ne2 : s.heap.objs.size ∉ [(sPush w s).objs.size, l] := by
          rw [big]
          simp only [List.mem_cons, List.not_mem_nil, or_false, not_or]
          exact ⟨Nat.ne_of_lt (Nat.lt_succ_self _), Nat.ne_of_gt low⟩
        have vals : ∀ (i : Nat) (v : Value), us[i]? = some v → ∃ k t, ns[i]? = some k ∧ v = .int k t := fun i v hv => by
          have hi : i < ns.length := by
            have := (Array.getElem?_eq_some_iff.mp hv).1
            omega
          obtain ⟨t, e⟩ := IntsAre.int_at hu i v (by rw [Array.getElem?_toList]; exact hv)
          exact ⟨ns[i], t, List.getElem?_eq_getElem hi, by rw [e, List.getD_eq_getElem?_getD, List.getElem?_eq_getElem hi]; rfl⟩
        refine set_update_ints ((Walks.list hA3 _ l ne1 us).toS) s.heap.objs.size ne2 ns size_us few vals (us.size - 0) 0 _ (by omega) (Nat.zero_le _) ⟨⟨_, Heap.get?_push_size _ rfl, rfl, rfl⟩, (lst1.push _)⟩ ?start ?after
        case start => exact ⟨0, Nat.le_refl 0, setR_new_at (Heap.get?_push_of_some _ at0)⟩
        case after =>
          intro s3 c mv hc3 hS3
          obtain ⟨h3, g3, d3, t3, o3⟩ := s3
          cases (mv.gens : g3 = s.gens)
          cases (mv.drawn : d3 = s.drawn)
          cases (mv.os : o3 = s.os)
          refine wpAny_pure ?_
          show wpAny _ _ (ret Value.none) _ _ _
          refine wpAny_pure ⟨rfl, h3, t3, c, rfl, hS3, by rw [size_us] at hc3; exact hc3, fun b o e => ?_⟩
          have hb := Heap.lt_size e
          refine mv.heap b o ?_ (Heap.get?_push_of_some _ (there e))
          simp only [List.mem_cons, List.not_mem_nil, or_false, not_or]
          exact ⟨Nat.ne_of_lt hb, by show b ≠ (sPush w s).objs.size; rw [big]; exact Nat.ne_of_lt (Nat.lt_succ_of_lt hb)⟩
      · cases r2 with
        | error e => exact hr2
        | ok fl2 =>
          cases fl2 with
          | ret r =>
            obtain ⟨rfl, hm⟩ := hr2
            have hm2 := hm
            obtain ⟨h2, t2, c, rfl, _⟩ := hm2
            repeat (any_goals (first | assumption | wp_step))
            exact k _ hm
          | _ => exact hr2.elim
    | _ => exact hr.elim
end
section
variable [Fam] [Tabz]
def rSetI (K : PySem.W.Frag) (w : World) : List V → Hp → VK → Prop := fun xs H Q => ∃ (l : Addr) (ns : List Int), xs = [.ref l] ∧ SqL K H l (ns.map V.int) ∧ ns.length ≤ 1000 ∧ ∀ p c, H p = none → c ≤ ns.length → Q (.ref p) (upd H p (SetO w p (fun j => decide (j ∈ ns)) c))
theorem cr_setI {X : Cx} (hc : X.calm = true) : CallR X (.type "set") (rSetI X.K X.w) := by
  intro pins s σ H xs us Q I r h
  obtain ⟨l, ns, rfl, hl, few, q⟩ := h
  rw [Vals.ref1 r]
  obtain ⟨its, rv, pl, hz⟩ := I.list hl
  have iu : PyProof.Rows.IntsAre its.toArray.toList ns := ints_of_vals rv
  refine call_set_ints (I.ok.hd hc) pl.isList iu (by unfold scanBound; omega) fun s2 ⟨h2, t2, c, e, R, hc2, kp⟩ => ?_
  subst e
  exact ⟨.ref s.heap.objs.size, upd H s.heap.objs.size (SetO X.w s.heap.objs.size (fun j => decide (j ∈ ns)) c), I.laid (t' := t2) kp (Nat.le_refl _) (setO_new R), rfl, q _ c (I.hok.fresh (Nat.le_refl _)) hc2⟩
/-- sorted(set(xs)) -/
def dSortSet (f : DF) : DF := fun ρ n Q => f ρ n fun r n1 => ∃ ds, r.dat = some (.list ds) ∧ ∃ ns, intsOf ds = some ns ∧ Cnd (ns.length < 64) ∧ ∀ out : List Int, out.Pairwise (· < ·) → (∀ k, k ∈ out ↔ k ∈ ns) → Q (.own (out.map PyData.int)) n1
theorem rp_intsS {M : Hp} : ∀ ns : List Int, RpA M (ns.map V.int) (ns.map PyData.int)
  | [] => .nil
  | n :: ns => .cons (.int n) (rp_intsS ns)
theorem pdSortSet {X : Cx} {e : Expr} {f : DF} {w : World} (h : PE X e (tCB (rSortedSet w) (tCons (tCB (rSetI X.K w) (tCons (tD f) tNil)) tNil))) : PE X e (tD (dSortSet f)) := h.imp fun σ H Q ⟨c, A, n, ρ, Q', E, hf, k⟩ => by
  refine ⟨c, A, n, ρ, _, E, hf, fun v r n1 H1 ⟨ds, ed, ns, en, cc, hq⟩ f1 o1 => ?_⟩
  have rp := o1.dat E ed
  have E1 := E.fr f1
  have few := cc.get
  cases rp with
  | @lst l xs _ h1 h2 =>
    have ex := ints_of h2 en
    subst ex
    refine ⟨l, ns, rfl, SqL.of (msk_some h1).2, by omega, fun p m np hm => ?_⟩
    refine ⟨p, _, m, rfl, upd_same, by omega, fun out q so mo _ nq => ?_⟩
    have f2 : Fr c A n1 n1 H1 (upd H1 p (SetO w p (fun j => decide (j ∈ ns)) m)) := Fr.new E1.g np
    have E2 := E1.fr f2
    have f3 := FrV.same E2.g (same_new nq) (own_new E2 nq (rp_intsS out))
    refine k _ _ n1 _ (hq out so fun x => ?_) ((f1.trans f2).trans f3) (VOk.mono E (f1.trans f2) (own_new E2 nq (rp_intsS out)))
    rw [mo x]
    exact decide_eq_true_iff
/-- sorted(xs), xs ints -/
def dSortI (f : DF) : DF := fun ρ n Q => f ρ n fun r n1 => ∃ ds, r.dat = some (.list ds) ∧ ∃ ns, intsOf ds = some ns ∧ ∀ out : List Int, out.Perm ns → out.Pairwise (· ≤ ·) → Q (.own (out.map PyData.int)) n1
theorem pdSortI {X : Cx} {e : Expr} {f : DF} (h : PE X e (tCB (rSortedI X.K) (tCons (tD f) tNil))) : PE X e (tD (dSortI f)) := h.imp fun σ H Q ⟨c, A, n, ρ, Q', E, hf, k⟩ => by
  refine ⟨c, A, n, ρ, _, E, hf, fun v r n1 H1 ⟨ds, ed, ns, en, hq⟩ f1 o1 => ?_⟩
  have rp := o1.dat E ed
  have E1 := E.fr f1
  cases rp with
  | @lst l xs _ h1 h2 =>
    have ex := ints_of h2 en
    subst ex
    exact ⟨l, ns, rfl, SqL.of (msk_some h1).2, fun out p pm so np => k _ _ n1 _ (hq out pm so) (f1.trans (FrV.same E1.g (same_new np) (own_new E1 np (rp_intsS out)))) (VOk.mono E f1 (own_new E1 np (rp_intsS out)))⟩
end

/-! ### a store: things that change, by their places -/
/-- tapes, as they were: what holds of a tape, where it stands -/
class Bas where
  Tq : V → V → Hp → Int → Prop
  Pq : V → V → Addr → Prop
  mv : ∀ {u t : V} {H H' : Hp} {n : Int}, Tq u t H n → (∀ b o, Pq u t b → H b = some o → H' b = some o) → Tq u t H' n
  ty : ∀ {u t : V} {H : Hp} {n : Int} {a : Addr}, Tq u t H n → Pq u t a → ∃ xs, H a = some (.lst xs)
/-- no store: draws alone -/
@[reducible] def famB [Bas] : Fam where
  S := Int
  Tq := fun u t _ H n => Bas.Tq u t H n
  Pq := fun u t _ a => Bas.Pq u t a
  mv := fun g _ k => Bas.mv g k
  ty := fun g p => by
    obtain ⟨xs, h⟩ := Bas.ty g p
    exact ⟨_, h, fun ps z => by cases z⟩
/-- a thing of the store -/
inductive SO where
  | lst (ds : List PyData) | dK (kvs : List (Key × PyData)) | dF (od : Obj) (ws : List (Key × V)) (kvs : List (Key × PyData)) | ins (C : Addr) (fs : List (Str × PyData))
inductive SRp (M : Hp) : List (Str × V) → List (Str × PyData) → Prop
  | nil : SRp M [] []
  | cons {f : Str} {v : V} {d : PyData} {ws : List (Str × V)} {fs : List (Str × PyData)} : Rp M v d → SRp M ws fs → SRp M ((f, v) :: ws) ((f, d) :: fs)
theorem SRp.ex {M M' : Hp} {ws : List (Str × V)} {fs : List (Str × PyData)} (r : SRp M ws fs) (e : Xt M M') : SRp M' ws fs := by
  induction r with
  | nil => exact .nil
  | cons h _ ih => exact .cons (h.ex e) ih
abbrev Sto := Addr → Option SO
def SReal (M H : Hp) (a : Addr) : SO → Prop
  | .lst ds => ∃ vs, H a = some (.lst vs) ∧ RpA M vs ds
  | .dK kvs => ∃ ws, H a = some (.dK ws) ∧ KRp M ws kvs
  | .dF od ws kvs => H a = some (.frz od (.dK ws)) ∧ KRp M ws kvs
  | .ins C fs => ∃ dx ws, H a = some (.ins C dx ws) ∧ SRp M ws fs
theorem SReal.ex {M M' H H' : Hp} {a : Addr} {o : SO} (r : SReal M H a o) (m : Xt M M') (k : ∀ u, H a = some u → H' a = some u) : SReal M' H' a o := by
  cases o with
  | lst ds =>
    obtain ⟨vs, h1, h2⟩ := r
    exact ⟨vs, k _ h1, h2.ex m⟩
  | dK kvs =>
    obtain ⟨vs, h1, h2⟩ := r
    exact ⟨vs, k _ h1, h2.ex m⟩
  | dF od ws kvs => exact ⟨k _ r.1, r.2.ex m⟩
  | ins C fs =>
    obtain ⟨dx, ws, h1, h2⟩ := r
    exact ⟨dx, ws, k _ h1, h2.ex m⟩
/-- what stands there is no table -/
theorem SReal.at {M H : Hp} {a : Addr} {o : SO} (r : SReal M H a o) : ∃ u : HO, H a = some u ∧ (∀ ps : Array Value, u ≠ HO.tbl ps) ∧ ∀ φ : Heap → Prop, u ≠ HO.ext φ := by
  cases o with
  | lst ds =>
    obtain ⟨vs, h1, h2⟩ := r
    exact ⟨_, h1, ⟨fun ps z => (by cases z), fun φ z => (by cases z)⟩⟩
  | dK kvs =>
    obtain ⟨vs, h1, h2⟩ := r
    exact ⟨_, h1, ⟨fun ps z => (by cases z), fun φ z => (by cases z)⟩⟩
  | dF od ws kvs => exact ⟨_, r.1, ⟨fun ps z => (by cases z), fun φ z => (by cases z)⟩⟩
  | ins C fs =>
    obtain ⟨dx, ws, h1, h2⟩ := r
    exact ⟨_, h1, ⟨fun ps z => (by cases z), fun φ z => (by cases z)⟩⟩
abbrev hnd (a : Addr) : PyData := .dict [(.none, .int (a : Nat))]
/-- draws and a store -/
@[reducible] def famS [Bas] : Fam where
  S := Int × Sto
  Tq := fun u t M H n => Bas.Tq u t H n.1 ∧ ∀ a o, n.2 a = some o → SReal M H a o ∧ ¬ Bas.Pq u t a
  Pq := fun u t n a => Bas.Pq u t a ∨ n.2 a ≠ none
  mv := fun {u t M M' H H' n} g m k => ⟨Bas.mv g.1 fun b o p => k b o (.inl p), fun a o h => ⟨by
    obtain ⟨r, _⟩ := g.2 a o h
    have q : Bas.Pq u t a ∨ n.2 a ≠ none := .inr (by rw [h]; exact fun z => by cases z)
    exact r.ex m fun u e => k a u q e, (g.2 a o h).2⟩⟩
  ty := fun {u t M H n a} g p => by
    rcases p with p | p
    · obtain ⟨xs, h⟩ := Bas.ty g.1 p
      exact ⟨_, h, fun ps z => by cases z⟩
    · cases h : n.2 a with
      | none => exact absurd h p
      | some o =>
        obtain ⟨r, _⟩ := g.2 a o h
        obtain ⟨w, h1, h2, _⟩ := r.at
        exact ⟨w, h1, h2⟩
def sset (S : Sto) (a : Addr) (o : SO) : Sto := fun b => if b = a then some o else S b
theorem sset_eq {S : Sto} {a : Addr} {o : SO} : sset S a o a = some o := if_pos rfl
theorem sset_ne {S : Sto} {a b : Addr} {o : SO} (h : b ≠ a) : sset S a o b = S b := if_neg h
section
variable [Bas] [Tabz]
local instance (priority := high) stoFam : Fam := famS
variable {c : EC} {A : Nat → Option Addr} {n : Fam.S} {σ : L2.St} {H : Hp} {ρ : List DV}
theorem EnvA.sat (E : EnvA c A n σ H ρ) {a : Addr} {o : SO} (h : n.2 a = some o) : SReal (msk (c.av n A) H) H a o ∧ ¬ Bas.Pq c.u c.t a := E.g.1.2 a o h
/-- less is kept as a store: what is left out stays as data -/
theorem EnvA.less (E : EnvA c A n σ H ρ) {S : Sto} (h : ∀ a o, S a = some o → n.2 a = some o) : EnvA c A (n.1, S) σ H ρ := by
  have pp : ∀ {b : Addr}, c.P (n.1, S) b → c.P n b := fun {b} p => p.imp id fun q e => q (by
    cases r : S b with
    | none => exact r
    | some o => rw [h b o r] at e; cases e)
  have xt : Xt (msk (c.av n A) H) (msk (c.av (n.1, S) A) H) := fun b o _ e => by
    obtain ⟨h1, h2⟩ := msk_some e
    rw [msk_out fun z => h1 (z.imp (fun z => z.imp id pp) id)]
    exact h2
  refine ⟨fun b o q e => ⟨fun p => ⟨((E.keep b o q e).1 p).1, fun z => ((E.keep b o q e).1 p).2 (pp z)⟩, (E.keep b o q e).2⟩, ⟨⟨E.g.1.1, fun a o e => ⟨?_, (E.g.1.2 a o (h a o e)).2⟩⟩, E.g.2⟩, E.new, fun i a e => ⟨(E.has i a e).1, fun z => (E.has i a e).2 (pp z)⟩, E.inj, fun i x e => (E.slot i x e).ex xt fun _ _ _ _ h => h, E.len, fun p hp => (E.pin p hp).ex xt, E.fin, E.mine⟩
  exact (E.g.1.2 a o (h a o e)).1.ex xt fun _ h => h
end

/-! ### a store: its rules -/
section
variable [Bas] [Tabz]
local instance (priority := high) yoFam2 : Fam := famS
theorem Tabs_mvE {T : List (Addr × Str)} {H H' : Hp} (h : LamX.Tabs T H) (k : ∀ b o, (∃ ps, o = HO.tbl ps) ∨ (∃ φ, o = HO.ext φ) → H b = some o → H' b = some o) : LamX.Tabs T H' := fun p hp => by
  obtain ⟨ps, h1, h2, h3⟩ := h p hp
  refine ⟨ps, k _ _ (.inl ⟨_, rfl⟩) h1, h2, fun pos cv hc => ?_⟩
  obtain ⟨c, e1, e2⟩ := h3 pos cv hc
  exact ⟨c, e1, k _ _ (.inr ⟨_, rfl⟩) e2⟩
theorem av_sset {c : EC} {A : Nat → Option Addr} {n : Fam.S} {a : Addr} {o : SO} {b : Addr} (h : c.av (n.1, sset n.2 a o) A b) : c.av n A b ∨ b = a := by
  rcases h with (h | h | h) | h
  · exact .inl (.inl (.inl h))
  · exact .inl (.inl (.inr (.inl h)))
  · by_cases e : b = a
    · exact .inr e
    · have h' : sset n.2 a o b ≠ none := h
      rw [sset_ne e] at h'
      exact .inl (.inl (.inr (.inr h')))
  · exact .inl (.inr h)
/-- what one has made goes to the store -/
theorem absorb {c : EC} {A : Nat → Option Addr} {n n1 : Fam.S} {σ : L2.St} {H H1 : Hp} {ρ : List DV} {a : Addr} {r : DV} {o : SO} (E : EnvA c A n σ H ρ) (f : FrV c A n n1 H H1 (.ref a) r) (hr : r.isOwn = true) (fr : Fresh H a) (na : ¬ c.av n1 A a)
    (rl : SReal (msk (fun b => c.av n1 A b ∨ b = a) H1) H1 a o) : FrV c A n (n1.1, sset n1.2 a o) H H1 (.ref a) (.d (hnd a)) := by
  have pp : ∀ {b : Addr}, c.P (n1.1, sset n1.2 a o) b → c.P n1 b ∨ b = a := fun {b} p => by
    rcases p with p | p
    · exact .inl (.inl p)
    · by_cases e : b = a
      · exact .inr e
      · have p' : sset n1.2 a o b ≠ none := p
        rw [sset_ne e] at p'
        exact .inl (.inr p')
  have g2 : c.G n1 (msk (hide r (.ref a) (c.av n1 A)) H1) H1 := f.2
  have hx : ∀ {b : Addr}, ¬ (c.av n1 A b ∨ b = a) → ¬ hide r (.ref a) (c.av n1 A) b := fun {b} h z => by
    cases r with
    | own ds => exact h (z.imp id fun z => by cases z; rfl)
    | dic ds => exact h (z.imp id fun z => by cases z; rfl)
    | _ => exact h (.inl z)
  have hx2 : ∀ {b : Addr}, ¬ hide r (.ref a) (c.av n1 A) b → ¬ (c.av n1 A b ∨ b = a) := fun {b} h z => by
    cases r with
    | own ds => exact h (z.imp id fun z => by rw [z])
    | dic ds => exact h (z.imp id fun z => by rw [z])
    | _ => cases hr
  have xt : Xt (msk (hide r (.ref a) (c.av n1 A)) H1) (msk (c.av (n1.1, sset n1.2 a o) A) H1) := fun b u _ e => by
    obtain ⟨h1, h2⟩ := msk_some e
    rw [msk_out fun z => hx2 h1 (av_sset z)]
    exact h2
  have xt2 : Xt (msk (fun b => c.av n1 A b ∨ b = a) H1) (msk (c.av (n1.1, sset n1.2 a o) A) H1) := fun b u _ e => by
    obtain ⟨h1, h2⟩ := msk_some e
    rw [msk_out fun z => h1 (av_sset z)]
    exact h2
  refine ⟨fun b u q e => ⟨fun p => ⟨((f.1 b u q e).1 p).1, fun z => ?_⟩, (f.1 b u q e).2⟩, ⟨g2.1.1, fun b u e => ?_⟩, g2.2⟩
  · rcases pp z with z | z
    · exact ((f.1 b u q e).1 p).2 z
    · subst z
      obtain ⟨ps, z⟩ := fr u e
      exact q ps z
  · have e' : sset n1.2 a o b = some u := e
    by_cases z : b = a
    · subst z
      rw [sset_eq] at e'
      cases e'
      exact ⟨rl.ex xt2 fun _ h => h, fun p => na (.inl (.inr (.inl p)))⟩
    · rw [sset_ne z] at e'
      obtain ⟨h1, h2⟩ := g2.1.2 b u e'
      exact ⟨h1.ex xt fun _ h => h, h2⟩
def dAbs (f : DF) : DF := fun ρ n Q => f ρ n fun r n1 => match r with
  | .own ds => ∀ a, n1.2 a = none → Q (.d (hnd a)) (n1.1, sset n1.2 a (.lst ds))
  | .dic kvs => ∀ a, n1.2 a = none → Q (.d (hnd a)) (n1.1, sset n1.2 a (.dK kvs))
  | r => Q r n1
theorem nav_none {c : EC} {A : Nat → Option Addr} {n : Fam.S} {a : Addr} (h : ¬ c.av n A a) : n.2 a = none := by
  cases q : n.2 a with
  | none => rfl
  | some o => exact absurd (.inl (.inr (.inr (by rw [q]; exact fun z => by cases z)))) h
theorem pdAbs {X : Cx} {e : Expr} {f : DF} (h : PE X e (tD f)) : PE X e (tD (dAbs f)) := h.imp fun σ H Q ⟨c, A, n, ρ, Q', E, hf, k⟩ => by
  refine ⟨c, A, n, ρ, _, E, hf, fun v r n1 H1 hq f1 o1 => ?_⟩
  cases r with
  | own ds =>
    obtain ⟨a, vs, rfl, h2, h3, h4⟩ := o1
    exact k _ _ _ H1 (hq a (nav_none h2.2)) (absorb E f1 rfl h2.1 h2.2 ⟨vs, h3, h4⟩) (Rp.hnd a)
  | dic ds =>
    obtain ⟨a, vs, rfl, h2, h3, h4⟩ := o1
    exact k _ _ _ H1 (hq a (nav_none h2.2)) (absorb E f1 rfl h2.1 h2.2 ⟨vs, h3, h4⟩) (Rp.hnd a)
  | un => exact k _ _ _ H1 hq f1 o1
  | tape => exact k _ _ _ H1 hq f1 o1
  | raw v => exact k _ _ _ H1 hq f1 o1
  | d x => exact k _ _ _ H1 hq f1 o1
/-- a list of the store is left as data -/
def sdel (S : Sto) (a : Addr) : Sto := fun b => if b = a then none else S b
theorem sdel_le {S : Sto} {a b : Addr} {o : SO} (h : sdel S a b = some o) : S b = some o ∧ b ≠ a := by
  unfold sdel at h
  split at h
  · cases h
  · exact ⟨h, by assumption⟩
theorem EnvA.nst {c : EC} {A : Nat → Option Addr} {n : Fam.S} {σ : L2.St} {H : Hp} {ρ : List DV} (E : EnvA c A n σ H ρ) {a : Addr} {o : SO} (h : n.2 a = some o) {m : Fam.S} (hm : m.2 a = none) : ¬ c.av m A a := by
  have hp : c.P n a := .inr (by rw [h]; exact fun z => by cases z)
  rintro ((z | z | z) | ⟨i, z⟩)
  · obtain ⟨o, _, h2⟩ := E.nB z
    exact h2 hp
  · exact (E.g.1.2 a o h).2 z
  · exact z hm
  · exact (E.has i a z).2 hp
theorem FrV.less {c : EC} {A : Nat → Option Addr} {n n1 : Fam.S} {H H1 : Hp} {v : V} {r : DV} (f : FrV c A n n1 H H1 v r) {S : Sto} (h : ∀ a o, S a = some o → n1.2 a = some o) : FrV c A n (n1.1, S) H H1 v r := by
  have pp : ∀ {b : Addr}, c.P (n1.1, S) b → c.P n1 b := fun {b} p => p.imp id fun q e => q (by
    show S b = none
    cases r : S b with
    | none => rfl
    | some o => rw [h b o r] at e; cases e)
  have av : ∀ {b : Addr}, c.av (n1.1, S) A b → c.av n1 A b := fun {b} z => z.imp (fun z => z.imp id pp) id
  have xt : Xt (_root_.Rh.msk (hide r v (c.av n1 A)) H1) (_root_.Rh.msk (hide r v (c.av (n1.1, S) A)) H1) := fun b o _ e => by
    obtain ⟨h1, h2⟩ := msk_some e
    rw [msk_out]
    · exact h2
    · intro z
      apply h1
      cases r with
      | own _ => exact z.imp av id
      | dic _ => exact z.imp av id
      | _ => exact av z
  exact ⟨fun b o q e => ⟨fun p => ⟨((f.1 b o q e).1 p).1, fun z => ((f.1 b o q e).1 p).2 (pp z)⟩, (f.1 b o q e).2⟩, ⟨f.2.1.1, fun a o e => ⟨(f.2.1.2 a o (h a o e)).1.ex xt fun _ h => h, (f.2.1.2 a o (h a o e)).2⟩⟩, f.2.2⟩
def dFrzH (f : DF) : DF := fun ρ n Q => f ρ n fun r n1 => ∃ a ds, r = .d (hnd a) ∧ n1.2 a = some (.lst ds) ∧ Q (.d (.list ds)) (n1.1, sdel n1.2 a)
theorem pdFrzH {X : Cx} {e : Expr} {f : DF} (h : PE X e (tD f)) : PE X e (tD (dFrzH f)) := h.imp fun σ H Q ⟨c, A, n, ρ, Q', E, hf, k⟩ => by
  refine ⟨c, A, n, ρ, _, E, hf, fun v r n1 H1 ⟨a, ds, er, es, hq⟩ f1 o1 => ?_⟩
  subst er
  cases o1
  have E1 := E.fr f1
  obtain ⟨⟨vs, h1, h2⟩, h3⟩ := E1.sat es
  refine k _ _ _ H1 hq (f1.less fun b o e => (sdel_le e).1) (Rp.lst ?_ (h2.ex fun b o _ e => ?_))
  · rw [msk_out (E1.nst es (m := (n1.1, sdel n1.2 a)) (by show sdel n1.2 a a = none; exact if_pos rfl))]
    exact h1
  · obtain ⟨g1, g2⟩ := msk_some e
    rw [msk_out]
    · exact g2
    · rintro ((z | z | z) | z)
      · exact g1 (.inl (.inl z))
      · exact g1 (.inl (.inr (.inl z)))
      · refine g1 (.inl (.inr (.inr fun q => z ?_)))
        show sdel n1.2 a b = none
        unfold sdel
        split
        · rfl
        · exact q
      · exact g1 (.inr z)
/-- a thing of the store is changed -/
theorem EnvA.smut {c : EC} {A : Nat → Option Addr} {n : Fam.S} {σ : L2.St} {H : Hp} {ρ : List DV} (E : EnvA c A n σ H ρ) {a : Addr} {o o' : SO} {u : HO} (h : n.2 a = some o) (hr : SReal (msk (c.av n A) H) (upd H a u) a o') (ut : ∀ ps, u ≠ HO.tbl ps) : EnvA c A (n.1, sset n.2 a o') σ (upd H a u) ρ := by
  have hp : c.P n a := .inr (by rw [h]; exact fun z => by cases z)
  have pp : ∀ {b : Addr}, c.P (n.1, sset n.2 a o') b ↔ c.P n b := fun {b} => by
    constructor
    · rintro (p | p)
      · exact .inl p
      · by_cases e : b = a
        · rw [e]; exact hp
        · have p' : sset n.2 a o' b ≠ none := p
          rw [sset_ne e] at p'
          exact .inr p'
    · rintro (p | p)
      · exact .inl p
      · refine .inr ?_
        show sset n.2 a o' b ≠ none
        by_cases e : b = a
        · rw [e, sset_eq]; exact fun z => by cases z
        · rw [sset_ne e]; exact p
  have av : c.av (n.1, sset n.2 a o') A = c.av n A := by
    funext b
    exact propext ⟨fun z => z.imp (fun z => z.imp id pp.mp) id, fun z => z.imp (fun z => z.imp id pp.mpr) id⟩
  have ava : c.av n A a := .inl (.inr hp)
  have mk : msk (c.av n A) (upd H a u) = msk (c.av n A) H := by
    funext b
    by_cases z : c.av n A b
    · unfold msk
      rw [if_pos z, if_pos z]
    · rw [msk_out z, msk_out z, upd_ne (fun e => z (by rw [e]; exact ava))]
  obtain ⟨w, hw, wt, we⟩ := (E.g.1.2 a o h).1.at
  have nBa : ¬ Bas.Pq c.u c.t a := (E.g.1.2 a o h).2
  have nAa : ∀ i, A i ≠ some a := fun i e => (E.has i a e).2 hp
  refine ⟨E.keep.trans fun b v q e => ⟨fun p => ?_, ?_⟩, ⟨⟨Bas.mv E.g.1.1 fun b v p e => ?_, fun b v e => ?_⟩, Tabs_mvE E.g.2 fun b v n1 e => ?_⟩, E.new, fun i b e => ⟨?_, fun z => (E.has i b e).2 (pp.mp z)⟩, E.inj, fun i x e => ?_, E.len, fun p hp => by rw [av, mk]; exact E.pin p hp, E.fin, E.mine⟩
  · have nb : b ≠ a := fun z => p (by rw [z]; exact hp)
    exact ⟨by rw [upd_ne nb]; exact e, fun z => p (pp.mp z)⟩
  · by_cases z : b = a
    · rw [z]
      exact ⟨u, upd_same, ut⟩
    · rw [upd_ne z]
      exact ⟨v, e, q⟩
  · rw [upd_ne fun z => nBa (by rw [← z]; exact p)]
    exact e
  · have e' : sset n.2 a o' b = some v := e
    rw [av, mk]
    by_cases z : b = a
    · subst z
      rw [sset_eq] at e'
      cases e'
      exact ⟨hr, nBa⟩
    · rw [sset_ne z] at e'
      obtain ⟨r1, r2⟩ := E.g.1.2 b v e'
      exact ⟨r1.ex (fun _ _ _ h => h) fun _ h => by rw [upd_ne z]; exact h, r2⟩
  · rw [upd_ne]
    · exact e
    · intro z
      rw [z, hw] at e
      cases e
      rcases n1 with ⟨ps, q⟩ | ⟨φ, q⟩
      · exact wt ps q
      · exact we φ q
  · have nb : b ≠ a := fun z => nAa i (by rw [← z]; exact e)
    rw [upd_ne nb]
    exact (E.has i b e).1
  · rw [av, mk]
    refine (E.slot i x e).ex (fun _ _ _ h => h) fun b v h1 _ h2 => ?_
    rw [upd_ne fun z => nAa i (by rw [← z]; exact h1)]
    exact h2
def SO.kvs : SO → Option (List (Key × PyData))
  | .dK kvs => some kvs
  | .dF _ _ kvs => some kvs
  | _ => none
/-- the dict that stands in the store -/
def dkv (S : Sto) (a : Addr) : Option (List (Key × PyData)) := (S a).bind SO.kvs
theorem dkv_of {S : Sto} {a : Addr} {kvs : List (Key × PyData)} (h : S a = some (.dK kvs)) : dkv S a = some kvs := by
  unfold dkv
  rw [h]
  rfl
theorem dkvF_of {S : Sto} {a : Addr} {od : Obj} {ws : List (Key × V)} {kvs : List (Key × PyData)} (h : S a = some (.dF od ws kvs)) : dkv S a = some kvs := by
  unfold dkv
  rw [h]
  rfl
theorem EnvA.dict {c : EC} {A : Nat → Option Addr} {n : Fam.S} {σ : L2.St} {H : Hp} {ρ : List DV} (E : EnvA c A n σ H ρ) {a : Addr} {kvs : List (Key × PyData)} (h : dkv n.2 a = some kvs) : ∃ ws, Rd H a (.dK ws) ∧ KRp (msk (c.av n A) H) ws kvs := by
  unfold dkv at h
  cases e : n.2 a with
  | none =>
    rw [e] at h
    cases h
  | some o =>
    rw [e] at h
    obtain ⟨r, _⟩ := E.sat e
    cases o with
    | lst ds => cases h
    | dK l =>
      cases h
      obtain ⟨ws, h1, h2⟩ := r
      exact ⟨ws, .inl h1, h2⟩
    | dF od ws l =>
      cases h
      exact ⟨ws, .inr ⟨_, r.1⟩, r.2⟩
    | ins C fs => cases h
/-- d[k], d of the store -/
def dSG (f g : DF) : DF := fun ρ n Q => f ρ n fun x n1 => g ρ n1 fun y n2 => ∃ a, x = .d (hnd a) ∧ ∃ k : Key, y = .d (kD k) ∧ ∃ kvs, dkv n2.2 a = some kvs ∧ ∃ z, valD kvs k = some z ∧ Q (.d z) n2
theorem pdSG {X : Cx} {o e : Expr} {pos : Pos} {f g : DF} (h : PE X (.Subscript o e pos) (tDGet (tD f) (tD g))) : PE X (.Subscript o e pos) (tD (dSG f g)) := h.imp fun σ H Q ⟨c, A, n, ρ, Q', E, hf, k⟩ => by
  refine ⟨c, A, n, ρ, _, E, hf, fun v x n1 H1 hg f1 o1 => ⟨c, A, n1, ρ, _, E.fr f1, hg, fun w y n2 H2 ⟨a, ex, key, ey, kvs, es, z, ez, hq⟩ f2 o2 => ?_⟩⟩
  subst ex ey
  cases o1
  have E2 := (E.fr f1).fr f2
  obtain rfl := kD_kV (show Rp _ w (kD key) from o2)
  obtain ⟨ws, h1, h2⟩ := E2.dict es
  rcases h2.val key with ⟨q1, q2⟩ | ⟨u, d, q1, q2, rp⟩
  · rw [q2] at ez
    cases ez
  · rw [q2] at ez
    cases ez
    exact ⟨a, u, rfl, .inl ⟨ws, key, h1, rfl, q1.symm⟩, k u _ n2 H2 hq (f1.trans f2.fr) rp⟩
/-- d[k] = x, d of the store -/
def dSP (f g fv : DF) : DS := fun E ρ n => fv ρ n fun y n1 => f ρ n1 fun x n2 => g ρ n2 fun j n3 => ∃ a, x = .d (hnd a) ∧ ∃ k : Key, j = .d (kD k) ∧ ∃ z, y.dat = some z ∧ ∃ kvs, n3.2 a = some (.dK kvs) ∧ kvs.length < 100000 ∧ E.nx ρ (n3.1, sset n3.2 a (.dK (putKD kvs k z)))
theorem psSP {X : Cx} {o e value : Expr} {pos pos' : Pos} {f g fv : DF} (hu : X.A.units + 1 < cLine) (ho : PE X o (tD f)) (he : PE X e (tD g)) (hv : PE X value (tD fv)) (hs : swapsWith value (some (.Subscript o e pos')) pos.line X.env = pure false := by rfl) :
    PS X (.Assign [.Subscript o e pos'] value pos) (sD (dSP f g fv)) := (ps_dput hu ho he hv hs).imp fun D σ H ⟨c, A, n, ρ, E, e, hf, L⟩ => by
  refine ⟨c, A, n, ρ, _, e, hf, fun v y n1 H1 hg f1 o1 => ⟨c, A, n1, ρ, _, e.fr f1, hg, fun w x n2 H2 hg2 f2 o2 => ⟨c, A, n2, ρ, _, (e.fr f1).fr f2, hg2, fun kv j n3 H3 ⟨a, ex, key, ej, z, ez, kvs, es, hl, hn⟩ f3 o3 => ?_⟩⟩⟩
  subst ex ej
  cases o2
  have E3 := ((e.fr f1).fr f2).fr f3
  obtain rfl := kD_kV (show Rp _ kv (kD key) from o3)
  obtain ⟨⟨ws, h1, h2⟩, _⟩ := E3.sat es
  have rv : Rp (msk (c.av n3 A) H3) v z := ((o1.dat e ez).ex f2.msk).ex f3.msk
  refine ⟨a, _, rfl, .inl ⟨ws, key, h1, rfl, big_lt (by rw [h2.length]; exact hl), rfl⟩, ?_⟩
  exact L.nx _ _ _ _ _ hn (E3.smut es ⟨_, upd_same, h2.put rv⟩ (fun _ z => by cases z))
/-- xs.append(e), xs of the store -/
def dSApp (f g : DF) : DS := fun E ρ n => f ρ n fun x n1 => ∃ a ds0, x = .d (hnd a) ∧ n1.2 a = some (.lst ds0) ∧ g ρ n1 fun r n2 => ∃ ds, n2.2 a = some (.lst ds) ∧ ∃ d, r.dat = some d ∧ ds.length < 100000 ∧ E.nx ρ (n2.1, sset n2.2 a (.lst (ds ++ [d])))
theorem psSApp {X : Cx} {e : Expr} {f g : DF} {pos : Pos} (hs : swapsWith e none pos.line X.env = pure false) (h : PE X e (tBM X.K "list" rAppend (tD f) (tCons (tD g) tNil))) : PS X (.Expr e pos) (sD (dSApp f g)) := (ps_expr h hs).imp fun D σ H ⟨c, A, n, ρ, E, e, hf, L⟩ => by
  refine ⟨c, A, n, ρ, _, e, hf, fun v x n1 H1 ⟨a, ds0, ex, e0, hg⟩ f1 o1 => ?_⟩
  subst ex
  cases o1
  have E1 := e.fr f1
  obtain ⟨⟨vs, h1, h2⟩, _⟩ := E1.sat e0
  refine ⟨.inl ⟨rfl, _, SqL.of h1⟩, c, A, n1, ρ, _, E1, hg, fun w r n2 H2 ⟨ds, es, d, ed, hl, hn⟩ f2 o2 => ?_⟩
  have E2 := E1.fr f2
  obtain ⟨⟨vs', k1, k2⟩, _⟩ := E2.sat es
  refine ⟨a, vs', w, rfl, rfl, k1, big_lt (by rw [k2.length]; exact hl), ?_⟩
  exact L.nx _ _ _ _ _ hn (E2.smut es ⟨_, upd_same, k2.app (.one (o2.dat E1 ed))⟩ (fun _ z => by cases z))
end

/-! ### dict(zip(xs, t)), xs a list, t a tuple -/
section
variable {prog : Program} {w : World} {A : Around} {E : Value → Shared → Prop} {s : Shared} {zo ti tp j1 j2 : Addr} {fp1 fp2 : List Addr} {n1 n2 k : Nat} {P1 P2 : Nat → Value → Prop} {St1 St2 : Nat → Heap → Prop} {fl : Bool} {tt : Addr} {ob : Obj}
theorem heldNext {Q : Value → Shared → Prop} (S : ZipSep2 zo ti tp j1 j2 fp1 fp2) (D1 : Draws prog w A j1 fp1 n1 P1 St1) (D2 : Draws prog w A j2 fp2 n2 P2 St2) (hq : IsZipHeld s.heap zo ti tp tt fl) (hob : s.heap.get? tt = some ob)
    (hti : IsTupOf2 s.heap ti (.ref j1) (.ref j2)) (q1 : St1 k s.heap) (q2 : St2 k s.heap) (l1 : k < n1) (l2 : k < n2)
    (fin : ∀ x1 x2 g tk, P1 k x1 → P2 k x2 → IsZipHeld g zo ti tp tt true → St1 (k + 1) g → St2 (k + 1) g → IsTupOf2 g s.heap.objs.size x1 x2 → (∀ b u, b ≠ zo → b ≠ j1 → b ≠ j2 → s.heap.get? b = some u → g.get? b = some u) → Q (.ref s.heap.objs.size) { s with heap := g, toks := tk }) :
    wpAny (model prog w) A (Builtin.«zip.__next__» ⟨[.ref zo], []⟩) (fun out s' => ∃ x, out = .done (.ret x) ∧ Q x s') E s := by
  show wpAny _ _ (field (.ref zo) 2 >>= _) _ _ _; refine wpAny_bind (wpAny_field hq rfl (x := .bool false) rfl ?_)
  show wpAny _ _ (field (.ref zo) 3 >>= _) _ _ _; refine wpAny_bind (wpAny_field hq rfl (x := .ref ti) rfl ?_)
  refine wpAny_bind (wpAny_seqItems hti rfl ?_); show wpAny _ _ (Builtin.SmallTypes.ownedTupleIsFree (.ref zo) >>= _) _ _ _
  refine wpAny_bind (wpAny_tupleHeld_zip hq hob fun g0 hq0 c0 => ?_)
  simp only [Bool.false_eq_true, if_false]; refine wpAny_bind ?_
  rw [← Array.forIn_toList]; simp only [List.forIn_cons, List.forIn_nil]
  refine wpAny_bind (wpAny_bind (wpAny_holding ?_)); show wpAny _ _ (Builtin.SmallTypes.nextOf (.ref j1) >>= _) _ _ _
  refine wpAny_bind (D1.item k { s with heap := g0 } _ _ l1 (D1.over q1 c0 S.zf1) fun x1 g1 tk1 hx1 r1 c1 => wpAny_pure ?_); refine wpAny_pure ?_
  refine wpAny_bind (wpAny_bind (wpAny_holding ?_)); show wpAny _ _ (Builtin.SmallTypes.nextOf (.ref j2) >>= _) _ _ _
  refine wpAny_bind (D2.item k { s with heap := g1, toks := tk1 } _ _ l2 (D2.over (D2.over q2 c0 S.zf2) c1 S.sep1_2) fun x2 g2 tk2 hx2 r2 c2 => wpAny_pure ?_); refine wpAny_pure (wpAny_pure ?_)
  show wpAny _ _ (newTuple [x1, x2] >>= _) _ _ _; refine wpAny_bind (wpAny_newTuple ?_)
  have c0' : Heap.SameBut zo s.heap g0 := c0
  have c1' : Heap.SameBut j1 g0 g1 := c1
  have c2' : Heap.SameBut j2 g1 g2 := c2
  have size2 : g2.objs.size = s.heap.objs.size := by rw [c2'.1, c1'.1, c0'.1]
  have hq2 : IsZipHeld g2 zo ti tp tt true := c2'.extBut _ _ S.zi2 (c1'.extBut _ _ S.zi1 hq0)
  have stay : ∀ b u, b ≠ zo → b ≠ j1 → b ≠ j2 → s.heap.get? b = some u → g2.get? b = some u := fun b u a0 a1 a2 e => c2'.extBut _ _ a2 (c1'.extBut _ _ a1 (c0'.extBut _ _ a0 e))
  have r1' : St1 (k + 1) g2 := D1.over r1 c2' S.sep2_1
  refine wpAny_pure ⟨_, rfl, ?_⟩; show Q (.ref g2.objs.size) _
  have push2 : IsTupOf2 (g2.push { cls := .type "tuple", data := .seq #[x1, x2] }) g2.objs.size x1 x2 := Heap.get?_push_size _ rfl
  rw [size2] at push2 ⊢
  exact fin x1 x2 _ tk2 hx1 hx2 (Heap.get?_push_of_some _ hq2) (D1.frame _ _ _ r1' fun b _ u e => Heap.get?_push_of_some _ e) (D2.frame _ _ _ r2 fun b _ u e => Heap.get?_push_of_some _ e) push2 fun b u a0 a1 a2 e => Heap.get?_push_of_some _ (stay b u a0 a1 a2 e)
theorem heldEnd {Q : Fin → Shared → Prop} (S : ZipSep2 zo ti tp j1 j2 fp1 fp2) (D1 : Draws prog w A j1 fp1 n1 P1 St1) (D2 : Draws prog w A j2 fp2 n2 P2 St2) (hq : IsZipHeld s.heap zo ti tp tt fl) (hob : s.heap.get? tt = some ob)
    (hti : IsTupOf2 s.heap ti (.ref j1) (.ref j2)) (q1 : St1 k s.heap) (q2 : St2 k s.heap) (l1 : k = n1) (l2 : k = n2)
    (fin : ∀ g e, (∀ b u, b ≠ zo → b ≠ j1 → b ≠ j2 → s.heap.get? b = some u → g.get? b = some u) → (∃ u, g.get? e = some u ∧ u.cls = .type "StopIteration") → E (.ref e) { s with heap := g }) :
    wpAny (model prog w) A (Builtin.«zip.__next__» ⟨[.ref zo], []⟩) Q E s := by
  show wpAny _ _ (field (.ref zo) 2 >>= _) _ _ _; refine wpAny_bind (wpAny_field hq rfl (x := .bool false) rfl ?_)
  show wpAny _ _ (field (.ref zo) 3 >>= _) _ _ _; refine wpAny_bind (wpAny_field hq rfl (x := .ref ti) rfl ?_)
  refine wpAny_bind (wpAny_seqItems hti rfl ?_); show wpAny _ _ (Builtin.SmallTypes.ownedTupleIsFree (.ref zo) >>= _) _ _ _
  refine wpAny_bind (wpAny_tupleHeld_zip hq hob fun g0 hq0 c0 => ?_)
  simp only [Bool.false_eq_true, if_false]; refine wpAny_bind ?_
  rw [← Array.forIn_toList]; simp only [List.forIn_cons, List.forIn_nil]
  refine wpAny_bind (wpAny_bind (wpAny_holding ?_)); show wpAny _ _ (Builtin.SmallTypes.nextOf (.ref j1) >>= _) _ _ _
  have c0' : Heap.SameBut zo s.heap g0 := c0
  subst l1
  refine wpAny_bind (D1.done { s with heap := g0 } _ _ (D1.over q1 c0 S.zf1) fun g1 e c1 he => fin g1 e (fun b u a0 a1 _ x => c1 b u a1 (c0'.extBut _ _ a0 x)) he)
/-- zip(xs, t) as what dict() is made of: both of one length -/
theorem pairsOf (zo ti tp j1 j2 l1 l2 : Addr) (xs ys : Array Value) (hl : xs.size = ys.size) (e1 : l1 ≠ j1) (e2 : l2 ≠ j2) (S : ZipSep2 zo ti tp j1 j2 [j1, l1] [j2, l2]) :
    PairArg prog w "zip" zo [zo, ti, tp, j1, j2, l1, l2] [zo, tp, j1, j2] xs.size (fun i a b => xs[i]? = some a ∧ ys[i]? = some b)
      (fun g => IsZip g zo ti tp .none ∧ IsTupOf2 g ti (.ref j1) (.ref j2) ∧ (∃ a b, IsTupOf2 g tp a b) ∧ g.IsListIter j1 l1 0 ∧ g.IsTupleIter j2 l2 0 ∧ g.IsList l1 xs ∧ g.IsTuple l2 ys) where
  type := fun s ok => ⟨_, ok.1, rfl⟩
  notDict := by decide
  keep := fun g g' ⟨a1, a2, ⟨u, v, a3⟩, a4, a5, a6, a7⟩ up => ⟨up _ _ a1, up _ _ a2, ⟨u, v, up _ _ a3⟩, a4.at fun o e => up _ o e, a5.at fun o e => up _ o e, a6.at fun o e => up _ o e, a7.at fun o e => up _ o e⟩
  there := fun g ⟨a1, a2, ⟨u, v, a3⟩, ⟨o4, a4, _⟩, ⟨o5, a5, _⟩, ⟨o6, a6, _⟩, ⟨o7, a7, _⟩⟩ b hb => by
    simp only [List.mem_cons, List.not_mem_nil, or_false] at hb
    rcases hb with e | e | e | e | e | e | e <;> subst e
    · exact ⟨_, a1⟩
    · exact ⟨_, a2⟩
    · exact ⟨_, a3⟩
    · exact ⟨_, a4⟩
    · exact ⟨_, a5⟩
    · exact ⟨_, a6⟩
    · exact ⟨_, a7⟩
  sub := fun b hb => by
    simp only [List.mem_cons, List.not_mem_nil, or_false] at hb ⊢
    rcases hb with e | e | e | e
    · exact .inl e
    · exact .inr (.inr (.inl e))
    · exact .inr (.inr (.inr (.inl e)))
    · exact .inr (.inr (.inr (.inr (.inl e))))
  noKeys := fun A s Q E hA ok h => getAttrOr_miss_zip ok.1 rfl rfl rfl zip_no_keys (by decide +kernel) hA h
  iter := fun A s d Q E hA ok hd hdf h => by
    obtain ⟨a1, a2, ⟨u, v, a3⟩, a4, a5, a6, a7⟩ := ok
    simp only [List.mem_cons, List.not_mem_nil, or_false, not_or] at hdf
    obtain ⟨dz, dti, dtp, d1, d2, dl1, dl2⟩ := hdf
    have D1 := Draws.list (prog := prog) (w := w) (A := A.in1) hA j1 l1 e1 xs
    have D2 := Draws.tuple (prog := prog) (w := w) (A := A.in1) hA j2 l2 e2 ys
    refine wpAny_pyIter_zip a1 (h zo [zo, tp, j1, j2] (fun i g => IsTupOf2 g ti (.ref j1) (.ref j2) ∧ (g.IsListIter j1 l1 i ∧ g.IsList l1 xs) ∧ (g.IsTupleIter j2 l2 i ∧ g.IsTuple l2 ys) ∧
      ((IsZip g zo ti tp .none ∧ ∃ a b, IsTupOf2 g tp a b) ∨ ∃ T f o, IsZipHeld g zo ti tp T f ∧ g.get? T = some o ∧ T ≠ zo ∧ T ≠ j1 ∧ T ≠ j2 ∧ T ≠ d)) s.heap s.toks ?_ ⟨a2, ⟨a4, a6⟩, ⟨a5, a7⟩, .inl ⟨a1, u, v, a3⟩⟩ (fun _ _ e => e) fun b hb => .inl hb)
    have old : ∀ {g : Heap} {b : Addr} {o : Obj}, g.get? b = some o → g.objs.size ≠ b := fun e => Nat.ne_of_gt (Heap.lt_size e)
    refine { off := fun hm => ?_, frame := fun i g g' ⟨b1, b2, b3, b4⟩ up => ?_, item := fun i s Q E hi ⟨b1, b2, b3, b4⟩ hds hQ => ?_, done := fun s Q E ⟨b1, b2, b3, b4⟩ hQ => ?_ }
    · simp only [List.mem_cons, List.not_mem_nil, or_false] at hm
      rcases hm with e | e | e | e
      · exact dz e
      · exact dtp e
      · exact d1 e
      · exact d2 e
    · refine ⟨up _ _ (Ne.symm dti) b1, ⟨b2.1.at fun o e => up _ o (Ne.symm d1) e, b2.2.at fun o e => up _ o (Ne.symm dl1) e⟩, ⟨b3.1.at fun o e => up _ o (Ne.symm d2) e, b3.2.at fun o e => up _ o (Ne.symm dl2) e⟩, ?_⟩
      rcases b4 with ⟨z1, a, b, z2⟩ | ⟨T, f, o, z1, z2, z3, z4, z5, z6⟩
      · exact .inl ⟨up _ _ (Ne.symm dz) z1, a, b, up _ _ (Ne.symm dtp) z2⟩
      · exact .inr ⟨T, f, o, up _ _ (Ne.symm dz) z1, up _ _ z6 z2, z3, z4, z5, z6⟩
    · have hi2 : i < ys.size := by rw [← hl]; exact hi
      have nj1 : s.heap.objs.size ≠ j1 := by obtain ⟨o, e, _⟩ := b2.1; exact old e
      have nj2 : s.heap.objs.size ≠ j2 := by obtain ⟨o, e, _⟩ := b3.1; exact old e
      rcases b4 with ⟨z1, a, b, z2⟩ | ⟨T, f, o, z1, z2, z3, z4, z5, z6⟩
      · refine wpAny_pyNext_zipD2_item S D1 D2 z1 b1 z2 b2 b3 hi hi2 fun x1 x2 g tk p1 p2 c1 c2 c3 c4 c5 c6 kp => ?_
        exact hQ s.heap.objs.size x1 x2 g tk ⟨p1, p2⟩ (.inl ⟨_, c5, rfl, _, rfl⟩) ⟨kp _ _ S.TIz S.TITO S.TIi1 S.TIi2 b1, c3, c4, .inr ⟨s.heap.objs.size, false, _, c1, c5, old z1, nj1, nj2, Nat.ne_of_gt hds⟩⟩
          fun b u hb e => kp b u (fun q => hb (by simp [q])) (fun q => hb (by simp [q])) (fun q => hb (by simp [q])) (fun q => hb (by simp [q])) e
      · have ty : s.TypeIs (.ref zo) "zip" := ⟨_, z1, rfl⟩
        unfold pyNext
        refine wpAny_bind (wpAny_attempt (wpAny_callSpecial?_slot (name := Str.ofString "__next__") ty F.slot_zip_next (wpAny_call_entry F.slot_zip_next ty F.entry_zip_next (heldNext S D1 D2 z1 z2 b1 b2 b3 hi hi2 fun x1 x2 g tk p1 p2 c1 c3 c4 c5 kp => wpAny_pure ?_) (F.args_zip_next_1 _))))
        exact hQ s.heap.objs.size x1 x2 g tk ⟨p1, p2⟩ (.inl ⟨_, c5, rfl, _, rfl⟩) ⟨kp _ _ S.TIz S.TIi1 S.TIi2 b1, c3, c4, .inr ⟨T, true, o, c1, kp _ _ z3 z4 z5 z2, z3, z4, z5, z6⟩⟩
          fun b u hb e => kp b u (fun q => hb (by simp [q])) (fun q => hb (by simp [q])) (fun q => hb (by simp [q])) e
    · rcases b4 with ⟨z1, a, b, z2⟩ | ⟨T, f, o, z1, z2, z3, z4, z5, z6⟩
      · exact wpAny_pyNext_zipD2_end S D1 D2 z1 b1 z2 b2 b3 (Nat.le_refl _) (by rw [hl]; exact Nat.le_refl _) (.inl rfl) fun g tk kp => hQ g tk fun b u hb e => kp b u (fun q => hb (by simp [q])) (fun q => hb (by simp [q])) (fun q => hb (by simp [q])) (fun q => hb (by simp [q])) e
      · have ty : s.TypeIs (.ref zo) "zip" := ⟨_, z1, rfl⟩
        unfold pyNext
        refine wpAny_bind (wpAny_attempt (wpAny_callSpecial?_slot (name := Str.ofString "__next__") ty F.slot_zip_next (wpAny_call_entry F.slot_zip_next ty F.entry_zip_next (heldEnd S D1 D2 z1 z2 b1 b2 b3 rfl hl fun g e kp he => ?_) (F.args_zip_next_1 _))))
        obtain ⟨o9, h9, c9⟩ := he
        refine wpAny_bind (wpAny_isInstance (T := "StopIteration") (b := true) ⟨o9, h9, c9⟩ isSubtype_stop ?_)
        exact wpAny_pure (hQ g _ fun b u hb e => kp b u (fun q => hb (by simp [q])) (fun q => hb (by simp [q])) (fun q => hb (by simp [q])) e)
end
/-- dict(zip(e1, e2)) of a list of keys and a tuple -/
def tDZip (K : PySem.W.Frag) (ta : TA) : TE := fun σ H Q => ta σ H fun vs H1 => ∃ (a b : Addr) (ks : List Key) (ys : List V), vs = [.ref a, .ref b] ∧ SqL K H1 a (ks.map kV) ∧ SqT K H1 b ys ∧ ys.length = ks.length ∧ ∀ p, H1 p = none → Q (.ref p) (upd H1 p (.dK (mergeK [] (ks.zip ys))))
theorem zip_carry {P : Program} {w : World} : ∀ {ks : List Key} {ys : List V} {us ws : List Value}, Vals (ks.map kV) us → Vals ys ws → ys.length = ks.length → ∃ prs : List (Key × Value), KV (ks.zip ys) prs ∧ prs.length = us.length ∧ ∀ (i : Nat) (a b : Value), us[i]? = some a → ws[i]? = some b → ∃ k, prs[i]? = some (k, b) ∧ (mixKind P w).is k a = true
  | [], [], us, ws, h1, h2, _ => by
    cases h1
    cases h2
    exact ⟨[], .nil, rfl, fun i a b e => by simp at e⟩
  | k :: ks, y :: ys, us, ws, h1, h2, hl => by
    cases h1 with
    | @cons _ u _ us r1 t1 =>
      cases h2 with
      | @cons _ v _ ws r2 t2 =>
        obtain ⟨prs, e1, e2, e3⟩ := zip_carry (P := P) (w := w) (ks := ks) (ys := ys) t1 t2 (Nat.succ.inj hl)
        refine ⟨(k, v) :: prs, .cons ⟨rfl, r2⟩ e1, by rw [List.length_cons, List.length_cons, e2], fun i a b ea eb => ?_⟩
        cases i with
        | zero =>
          simp at ea eb
          subst ea eb
          exact ⟨k, rfl, kV_is r1⟩
        | succ i => exact e3 i a b (by simpa using ea) (by simpa using eb)
  | [], _ :: _, _, _, _, _, hl => by cases hl
  | _ :: _, [], _, _, _, _, hl => by cases hl
theorem pe_dictZip {X : Cx} {e1 e2 : Expr} {ta : TA} {pd pz pos pos2 : Pos} (hcalm : X.calm = true) (hgd : Gl X "dict") (hmd : X.mg "dict" = none) (hgz : Gl X "zip") (hmz : X.mg "zip" = none) (ha : PA X [e1, e2] ta)
    (hs : starEach [e1, e2] X.env = (false, eval e1 X.env) :: starEach [e2] X.env := by rfl) (hpl : (backTo pos2 (starEach [e2] X.env)).any (·.1) = false := by rfl)
    (ho : starEach [.Call (.Name "zip" pz) [e1, e2] [] pos2] X.env = (false, eval (.Call (.Name "zip" pz) [e1, e2] [] pos2) X.env) :: starEach [] X.env := by rfl) :
    PE X (.Call (.Name "dict" pd) [.Call (.Name "zip" pz) [e1, e2] [] pos2] [] pos) (tDZip X.K ta) := by
  refine ⟨fun pins s σ H Q I h => ?_⟩
  refine wpAny_Call_Name_kw (ld_blt I hgd hmd (by decide +kernel : bootBuiltins "dict" = some (.type "dict")) ?_ (by decide) (by decide))
  refine PyProof.Rows.callWith_type1 ?_ ho rfl
  rw [ho]
  refine Calls.spliced_cons ?_
  refine wpAny_Call_Name_kw (ld_blt I hgz hmz PyProof.Rows.boot_zip ?_ (by decide) (by decide))
  refine PyProof.Rows.callWith_type1 (thn (ha.run pos2 pins s σ H _ I h) fun us s1 ⟨vs, H1, I1, r1, q1⟩ => ?_) hs hpl
  obtain ⟨a, b, ks, ys, ex, hqx, hqy, hlen, q⟩ := q1
  subst ex
  cases r1 with
  | cons r rr => cases rr with
    | cons r' rr =>
      cases rr
      cases r
      cases r'
      obtain ⟨its, rv, p1, z1⟩ := I1.list hqx
      obtain ⟨its2, rv2, p2, z2⟩ := I1.tuple hqy
      have la : a < s1.heap.objs.size := p1.lt
      have lb : b < s1.heap.objs.size := p2.lt
      have l1 := rv.length
      have l2 := rv2.length
      rw [List.length_map] at l1
      refine zip_begins2 (begins_list a its.toArray) (begins_tuple b its2.toArray) p1.isList p2 fun h' hz hTI hTO g1 g2 hsz hk => Calls.spliced_nil ?_
      have I2 : Inv X pins σ H1 { s1 with heap := h' } := I1.kept (t' := s1.toks) hk
      obtain ⟨prs, c1, c2, c3⟩ := zip_carry (P := X.prog) (w := X.w) rv rv2 hlen
      have sl : its.toArray.size = its2.toArray.size := by rw [List.size_toArray, List.size_toArray]; omega
      have S0 := zip_sep2 (N := s1.heap.objs.size) (fp1 := [a]) (fp2 := [b]) (fun c hc => by rw [List.mem_singleton.mp hc]; exact la) (fun c hc => by rw [List.mem_singleton.mp hc]; exact lb)
      refine PySem.call_dict_pairs (knd := mixKind X.prog X.w) (kvs := prs) (pairsOf _ _ _ _ _ a b its.toArray its2.toArray sl (Nat.ne_of_lt la) (Nat.ne_of_lt (Nat.lt_succ_of_lt lb)) S0) (I2.ok.hd hcalm) ⟨hz, hTI, ⟨_, _, hTO⟩, ⟨_, g1, rfl, rfl⟩, ⟨_, g2, rfl, rfl⟩, p1.isList.at fun o e => hk _ o e, Heap.IsTuple.at p2 fun o e => hk _ o e⟩ ⟨by rw [c2, List.size_toArray], fun i x y hxy => ?_⟩ ?_ fun g tk hd kp => ?_
      · obtain ⟨e1, e2⟩ := hxy
        exact c3 i x y (by simpa using e1) (by simpa using e2)
      · rw [List.size_toArray, ← l1, ← List.length_map (f := kV)]
        exact z1
      · have hle : s1.heap.objs.size ≤ h'.objs.size := by rw [hsz]; exact Nat.le_add_right _ _
        have hm : (h'.objs.size == sysModules) = false := beq_eq_false_iff_ne.mpr (Nat.ne_of_gt (Nat.lt_of_lt_of_le I1.big hle))
        have hz5 : (mergeK [] (ks.zip ys)).length ≤ sizeLine := by
          refine Nat.le_trans (length_mergeK _ []) ?_
          rw [List.length_nil, Nat.zero_add, List.length_zip, hlen, Nat.min_self, ← List.length_map (f := kV)]
          exact z1
        refine ⟨.ref h'.objs.size, _, I1.laid (t' := tk) (fun c u e => kp c u (fun z => ?_) (hk c u e)) hle (dk_new hz5 hm (c1.merge .nil) hd), rfl, q _ (I1.hok.fresh hle)⟩
        have lt : c < s1.heap.objs.size := Heap.lt_size e
        have z' : c = s1.heap.objs.size + 4 ∨ c = s1.heap.objs.size + 3 ∨ c = s1.heap.objs.size ∨ c = s1.heap.objs.size + 1 := by simpa using z
        rcases z' with e | e | e | e
        · rw [e] at lt; exact Nat.not_lt.mpr (Nat.le_add_right _ _) lt
        · rw [e] at lt; exact Nat.not_lt.mpr (Nat.le_add_right _ _) lt
        · rw [e] at lt; exact Nat.lt_irrefl _ lt
        · rw [e] at lt; exact Nat.not_lt.mpr (Nat.le_add_right _ _) lt

/-! ### a store: lists against [], dict(zip), displays, updates -/
section
/-- xs != [] -/
def rNeE (K : PySem.W.Frag) : R2 := fun x y H Q => ∃ (a b : Addr) (xs : List V), x = .ref a ∧ y = .ref b ∧ SqL K H a xs ∧ SqL K H b [] ∧ Q (.bl (!xs.isEmpty)) H
theorem op_neE {X : Cx} (hu : X.A.units + 64 < cLine) : OpR X (PySem.compareOp .NotEq) (rNeE X.K) := by
  intro pins s σ H x y v u Q I rx ry h
  obtain ⟨a, b, xs, rfl, rfl, ha, hb, q⟩ := h
  obtain rfl : v = Value.ref a := rx
  obtain rfl : u = Value.ref b := ry
  obtain ⟨its, rv, p1, _⟩ := I.list ha
  obtain ⟨its2, rv2, p2, _⟩ := I.list hb
  cases rv2
  cases rv with
  | nil => exact SeqAt.RcNeAt.lists (e := fun _ => true) p1.isList p2.isList rfl (by omega) (fun j h1 _ => absurd h1 (Nat.not_lt_zero j)) _ _ _ _ ⟨.bl false, H, I, rfl, q⟩
  | cons r t => exact SeqAt.RcNeAt.lists_lengths p1.isList p2.isList (by simp) (by omega) _ _ _ _ ⟨.bl true, H, I, rfl, q⟩
/-- d.update(e), e a dict -/
def tDUpd (td ty : TE) : TE := fun σ H Q => td σ H fun x H1 => ∃ a, x = .ref a ∧ IsD H1 a ∧ ty σ H1 fun y H2 => ∃ b kvs more, y = .ref b ∧ a ≠ b ∧ H2 a = some (.dK kvs) ∧ H2 b = some (.dK more) ∧ kvs.length + more.length ≤ sizeLine ∧ Q .non (upd H2 a (.dK (mergeK kvs more)))
theorem pe_dupd {X : Cx} {o e : Expr} {apos cpos : Pos} {td ty : TE} (ho : PE X o td) (he : PE X e ty) (m : M1 X o "update" apos e cpos) : PE X (.Call (.Attribute o "update" apos) [e] [] cpos) (tDUpd td ty) := by
  constructor
  intro pins s σ H Q I h
  refine wpAny_Call_method m.base m.few m.line PySem.F.plainAttrs_dict PySem.F.slot_dict_update PySem.F.type_dict_update (thn (ho.run pins s σ H _ I h) fun u s1 ⟨x, H1, I1, rx, a, ex, d, q1⟩ => ?_)
  subst ex
  obtain rfl : u = Value.ref a := rx
  obtain ⟨t1, t2, _⟩ := isD_at I1 d
  refine ⟨t1, t2, ?_⟩
  rw [m.trees]
  refine Calls.callWith_builtin rfl (Calls.evalArgs_plain (Calls.spliced_cons (thn (he.run pins s1 σ H1 _ I1 q1) fun v2 s2 ⟨y, H2, I2, ry, b, kvs, more, ey, ne, ea, eb, hl, q2⟩ => Calls.spliced_nil ?_)))
  subst ey
  obtain rfl : v2 = Value.ref b := ry
  obtain ⟨za, hda, va, ra, da⟩ := dk_of I2.hok ea
  obtain ⟨zb, hdb, vb, rb, db⟩ := dk_of I2.hok eb
  refine call_meetsIn PySem.F.slot_dict_update da.typeIs PySem.F.entry_dict_update (PySem.F.args_dict_update_2 _ _) (meets_dict_update (mixKind X.prog X.w) a b ne hdb) ⟨va, vb, da, db, by rw [← ra.length, ← rb.length]; exact hl, fun h' dd' _ hs => ⟨.non, _, ?_, rfl, q2⟩⟩
  have there : ∃ o9, h'.get? a = some o9 := let ⟨o9, _, _, ho9, _⟩ := dd'; ⟨o9, ho9⟩
  exact d_write (t' := s2.toks) I2 (by rw [ea]; exact True.intro) hs there (dk_new (Nat.le_trans (length_mergeK more kvs) hl) hda (rb.merge ra) dd')
end
section
variable [Fam] [Tabz]
def opNeE : PyData → PyData → Option DV
  | .list ds, .list [] => some (.d (.bool (!ds.isEmpty)))
  | _, _ => none
theorem r2NeE {K : PySem.W.Frag} : R2D (rNeE K) opNeE := by
  intro t B H v w a b z Q hB ra rb e k
  cases ra <;> cases rb <;> try cases e
  rename_i a xs ds h1 h2 b ys es h3 h4
  cases es with
  | cons _ _ => cases e
  | nil =>
    cases e
    cases h4
    refine ⟨_, _, xs, rfl, rfl, SqL.of (msk_some h1).2, SqL.of (msk_some h3).2, ?_⟩
    rw [h2.empty]
    exact k _ H (fun _ _ h => h) (Rp.bl _)
/-- dict(zip(..)) -/
theorem kds_kvs {M : Hp} : ∀ {vs : List V} {ks : List Key}, RpA M vs (ks.map kD) → vs = ks.map kV
  | _, [], h => by cases h; rfl
  | _, k :: ks, h => by
    cases h with
    | cons r t => rw [kD_kV r, kds_kvs t]; rfl
theorem KRp.zip {M : Hp} : ∀ {ks : List Key} {vs : List V} {ds : List PyData}, RpA M vs ds → KRp M (ks.zip vs) (ks.zip ds)
  | [], _, _, _ => .nil
  | _ :: _, _, _, .nil => .nil
  | _ :: _, _, _, .cons r t => .cons r (KRp.zip t)
def dDZip (g : DA) : DF := fun ρ n Q => g ρ n fun rs n1 => ∃ (ks : List Key) (ds : List PyData), datsOf rs = some [.list (ks.map kD), .tuple ds] ∧ ds.length = ks.length ∧ Q (.dic (mergeD [] (ks.zip ds))) n1
theorem pdDZip {X : Cx} {e : Expr} {g : DA} (h : PE X e (tDZip X.K (tDA g))) : PE X e (tD (dDZip g)) := h.imp fun σ H Q ⟨c, A, n, ρ, Q', E, hf, k⟩ => by
  refine ⟨c, A, n, ρ, _, E, hf, fun vs rs n1 H1 ⟨ks, ds, ed, hl, hq⟩ f1 o1 => ?_⟩
  have r := o1.dats E ed
  have E1 := E.fr f1
  cases r with
  | cons r1 t => cases t with
    | cons r2 t =>
      cases t
      cases r1 with
      | @lst a xs _ h1 h2 => cases r2 with
        | @tup b ys _ h3 h4 =>
          refine ⟨a, b, ks, ys, rfl, ?_, SqT.of (msk_some h3).2, by rw [h4.length]; exact hl, fun p hp => ?_⟩
          · rw [← kds_kvs h2]
            exact SqL.of (msk_some h1).2
          · have o := dic_new E1 hp ((KRp.zip (ks := ks) h4).merge (ws := []) (kvs := []) .nil)
            exact k _ _ n1 _ hq (f1.trans (FrV.same E1.g (same_new hp) o)) (VOk.mono E f1 o)
theorem EnvA.sideO {c : EC} {A : Nat → Option Addr} {n : Fam.S} {σ : L2.St} {H : Hp} {ρ : List DV} (E : EnvA c A n σ H ρ) {D : Addr} {o9 : HO} (ho9 : ∀ ps, o9 ≠ HO.tbl ps) (hD : H D = none) (M : Nat) : ∃ k A', ρ.length ≤ k ∧ M ≤ k ∧ A' k = some D ∧ (∀ j, j ≠ k → A' j = A j) ∧ A k = none ∧ EnvA c A' n σ (upd H D o9) ρ := by
  obtain ⟨N, hN⟩ := E.fin
  obtain ⟨Z, kN, kR, kM⟩ : ∃ Z, N ≤ Z ∧ ρ.length ≤ Z ∧ M ≤ Z := ⟨N + ρ.length + M, by omega, by omega, by omega⟩
  have same : ∀ j, j ≠ Z → (fun j => if j = Z then some D else A j) j = A j := fun j z => by show (if j = Z then some D else A j) = _; rw [if_neg z]
  have mine : (fun j => if j = Z then some D else A j) (Z) = some D := by show (if Z = Z then some D else A _) = _; rw [if_pos rfl]
  refine ⟨Z, fun j => if j = Z then some D else A j, kR, kM, mine, same, hN _ kN, ?_⟩
  have s := same_new (o := o9) hD
  have xt : Xt (msk (c.av n A) H) (msk (c.av n fun j => if j = Z then some D else A j) (upd H D o9)) := fun b o q e => by
    obtain ⟨h1, h2⟩ := msk_some e
    rw [msk_out]
    · exact s b o h2
    · rintro (z | ⟨j, z⟩)
      · exact h1 (.inl z)
      · have z' : (if j = Z then some D else A j) = some b := z
        split at z'
        · cases z'
          rw [hD] at h2
          cases h2
        · exact h1 (.inr ⟨j, z'⟩)
  refine ⟨E.keep.trans (.same s), c.Gm n _ _ H _ E.g xt (fun b o _ _ _ h => s b o h) fun b o _ h => s b o h, fun j a e => ?_, fun j a e => ?_, fun i j a e1 e2 => ?_, fun i x e => ?_, E.len, fun p hp => (E.pin p hp).ex xt, ⟨Z + 1, fun k hk => ?_⟩, fun j a x e1 e2 => ?_⟩
  · have e' : (if j = Z then some D else A j) = some a := e
    split at e'
    · cases e'
      exact (Fresh.of hD).fr E.fr0
    · exact E.new j a e'
  · have e' : (if j = Z then some D else A j) = some a := e
    split at e'
    · cases e'
      exact ⟨⟨_, upd_same, ho9⟩, fun z => by
        obtain ⟨o, h1, _⟩ := c.Gs n _ H D E.g z
        rw [hD] at h1
        cases h1⟩
    · obtain ⟨⟨o, h1, h2⟩, h3⟩ := E.has j a e'
      exact ⟨⟨o, s a o h1, h2⟩, h3⟩
  · have e1' : (if i = Z then some D else A i) = some a := e1
    have e2' : (if j = Z then some D else A j) = some a := e2
    split at e1' <;> split at e2'
    · rename_i z1 z2
      rw [z1, z2]
    · cases e1'
      obtain ⟨⟨o, h1, _⟩, _⟩ := E.has j D e2'
      rw [hD] at h1
      cases h1
    · cases e2'
      obtain ⟨⟨o, h1, _⟩, _⟩ := E.has i D e1'
      rw [hD] at h1
      cases h1
    · exact E.inj i j a e1' e2'
  · have ni : i ≠ Z := by
      have := (List.getElem?_eq_some_iff.mp e).1
      omega
    show SlOk _ _ _ (if i = Z then some D else A i) _ _
    rw [if_neg ni]
    exact (E.slot i x e).ex xt fun a o _ _ h => s a o h
  · show (if k = Z then some D else A k) = none
    rw [if_neg (by omega)]
    exact hN k (by omega)
  · have nj : j ≠ Z := by
      have := (List.getElem?_eq_some_iff.mp e2).1
      omega
    have e1' : (if j = Z then some D else A j) = some a := e1
    rw [if_neg nj] at e1'
    exact E.mine j a x e1' e2
/-- {k: v, ..} -/
def dPairsV : List (DF × DF) → List DV → Fam.S → (List (Key × PyData) → Fam.S → Prop) → Prop
  | [], _, n, Q => Q [] n
  | (f, g) :: r, ρ, n, Q => f ρ n fun x n1 => ∃ k : Key, x = .d (kD k) ∧ g ρ n1 fun y n2 => ∃ z, y.dat = some z ∧ dPairsV r ρ n2 fun ps n3 => Q ((k, z) :: ps) n3
abbrev trsD (fs : List (DF × DF)) : List (TE × TE) := fs.map fun p => (tD p.1, tD p.2)
theorem pairs_leD {c : EC} {A : Nat → Option Addr} {σ : L2.St} {ρ : List DV} : ∀ (fs : List (DF × DF)) {n : Fam.S} {H : Hp} (Q' : List (Key × PyData) → Fam.S → Prop) (Q : List (V × V) → Hp → Prop), EnvA c A n σ H ρ → dPairsV fs ρ n Q' →
    (∀ ws kvs n' H', Q' kvs n' → Fr c A n n' H H' → KRp (msk (c.av n' A) H') ws kvs → Q (ws.map fun kv => (kV kv.1, kv.2)) H') → tPairs (trsD fs) σ H Q
  | [], n, H, Q', Q, E, hf, k => k [] [] n H hf (Fr.refl E.g) .nil
  | (f, g) :: r, n, H, Q', Q, E, hf, k => by
    refine ⟨c, A, n, ρ, _, E, hf, fun v x n1 H1 ⟨key, ex, hg⟩ f1 o1 => ⟨c, A, n1, ρ, _, E.fr f1, hg, fun w y n2 H2 ⟨z, ez, hr⟩ f2 o2 => ?_⟩⟩
    subst ex
    obtain rfl := kD_kV (show Rp _ v (kD key) from o1)
    have E2 := (E.fr f1).fr f2
    refine pairs_leD r _ _ E2 hr fun ws kvs n3 H3 hq f3 rk => ?_
    exact k ((key, w) :: ws) _ n3 H3 hq ((f1.trans f2).trans f3) (.cons ((o2.dat (E.fr f1) ez).ex f3.msk) rk)
def dDisp (fs : List (DF × DF)) : DF := fun ρ n Q => dPairsV fs ρ n fun kvs n1 => kvs.length ≤ 15 ∧ Q (.dic (mergeD [] kvs)) n1
theorem KRp.ex2 {M M' : Hp} {ws : List (Key × V)} {kvs : List (Key × PyData)} (r : KRp M ws kvs) (e : Xt M M') : KRp M' ws kvs := r.ex e
theorem pdDisp {X : Cx} {keys : List (Option Expr)} {values : List Expr} {pos : Pos} {fs : List (DF × DF)} (h : PPs X pos keys values (trsD fs)) (hall : keys.all (·.isSome) = true) (hl : keys.length = values.length) (h0 : keys ≠ []) (h15 : keys.length ≤ 15) :
    PE X (.Dict keys values pos) (tD (dDisp fs)) := (pe_disp h hall hl h0 h15).imp fun σ H Q ⟨c, A, n, ρ, Q', E, hf, k⟩ => by
  intro p np
  obtain ⟨kp, A1, _, _, hA1, same, hAk, E0⟩ := E.sideO (o9 := .dK []) (fun ps z => by cases z) np 0
  have f0 : Fr c A n n H (upd H p (.dK [])) := Fr.new E.g np
  refine pairs_leD fs _ _ E0 hf fun ws kvs n1 H1 ⟨hl, hq⟩ f1 rk => ?_
  have np9 : ¬ c.P n p := fun b => (E0.nP hA1) (c.PB b)
  have np8 : ¬ c.P n1 p := f1.1.n np9 (fun _ z => by cases z) upd_same
  have h2 : H1 p = some (.dK []) := f1.k p _ np9 (fun _ z => by cases z) upd_same
  have up : ∀ {b : Addr}, c.av n1 A b → c.av n1 A1 b := fun {b} z => z.imp id fun ⟨j, e⟩ => ⟨j, by rw [same j fun z => by rw [z, hAk] at e; cases e]; exact e⟩
  have avp : c.av n1 A1 p := .inr ⟨kp, hA1⟩
  have nap : ¬ c.av n1 A p := by
    rintro (z | ⟨j, z⟩)
    · exact (E0.fr f1).nP hA1 z
    · have nj : j ≠ kp := fun e => by
        rw [e, hAk] at z
        cases z
      exact nj (E0.inj j kp p (by rw [same j nj]; exact z) hA1)
  have xt : Xt (msk (c.av n1 A1) H1) (msk (fun b => c.av n1 A b ∨ b = p) (upd H1 p (.dK (mergeK [] ws)))) := fun b o _ e => by
    obtain ⟨g1, g2⟩ := msk_some e
    have nb : b ≠ p := fun z => g1 (by rw [z]; exact avp)
    rw [msk_out (fun z => z.elim (fun z => g1 (up z)) nb), upd_ne nb]
    exact g2
  have xt2 : Xt (msk (c.av n1 A1) H1) (msk (hide (.dic (mergeD [] kvs)) (.ref p) (c.av n1 A)) (upd H1 p (.dK (mergeK [] ws)))) := fun b o q e => by
    obtain ⟨g1, g2⟩ := msk_some (xt b o q e)
    rw [msk_out fun z => g1 (z.imp id fun z => by cases z; rfl)]
    exact g2
  refine ⟨h2, ws, rfl, by rw [rk.length]; exact hl, k _ _ n1 _ hq ⟨fun b o q e => ?_, c.Gm n1 _ _ H1 _ f1.g xt2 (fun b o _ q2 _ hb => ?_) fun b o pb hb => ?_⟩ ⟨p, _, rfl, ⟨.of np, nap⟩, upd_same, (rk.merge (ws := []) (kvs := []) .nil).ex xt⟩⟩
  · have ne : b ≠ p := ne_of_none e np
    rw [upd_ne ne]
    exact (f0.1.trans f1.1) b o q e
  · have ne : b ≠ p := fun z => by
      rw [z, h2] at hb
      cases hb
      exact q2 _ rfl
    rw [upd_ne ne]
    exact hb
  · have ne : b ≠ p := fun z => np8 (z ▸ pb)
    rw [upd_ne ne]
    exact hb
/-- d.update({..}), d a dict of one's own -/
def dDUpd (i : Nat) (f : DF) : DS := fun E ρ n => (∃ kvs, ρ[i]? = some (.dic kvs)) ∧ f ρ n fun r n1 => ∃ kvs more, ρ[i]? = some (.dic kvs) ∧ r = .dic more ∧ kvs.length + more.length ≤ 100000 ∧ E.nx (ρ.set i (.dic (mergeD kvs more))) n1
theorem psDUpd {X : Cx} {i : Nat} {o e : Expr} {apos cpos pos : Pos} {f : DF} (ho : PE X o (tVar i)) (he : PE X e (tD f)) (m : M1 X o "update" apos e cpos) (hs : swapsWith (.Call (.Attribute o "update" apos) [e] [] cpos) none pos.line X.env = pure false := by rfl) :
    PS X (.Expr (.Call (.Attribute o "update" apos) [e] [] cpos) pos) (sD (dDUpd i f)) := (ps_expr (pe_dupd ho he m) hs).imp fun D σ H ⟨c, A, n, ρ, E, e, ⟨⟨kvs0, e0⟩, hf⟩, L⟩ => by
  obtain ⟨a, ws, h1, h2, h3, h4⟩ := e.slot i _ e0
  refine ⟨_, h2, a, rfl, .inl ⟨ws, .inl h3⟩, c, A, n, ρ, _, e, hf, fun v r n1 H1 ⟨kvs, more, e1, er, hl, hn⟩ f1 o1 => ?_⟩
  subst er
  have E1 := e.fr f1
  obtain ⟨a', ws', k1, k2, k3, k4⟩ := E1.slot i _ e1
  rw [h1] at k1
  cases k1
  obtain ⟨b, us, rfl, g1, g2, g3⟩ := o1
  have ne : a ≠ b := fun z => g1.2 (.inr ⟨i, by rw [← z]; exact h1⟩)
  have ru : KRp (msk (c.av n1 A) H1) us more := g3.ex fun x o _ ex => by
    obtain ⟨y1, y2⟩ := msk_some ex
    rw [msk_out fun z => y1 (.inl z)]
    exact y2
  refine ⟨b, ws', us, rfl, ne, k3, g2, ?_, ?_⟩
  · rw [k4.length, ru.length]
    exact Nat.le_trans hl (by decide)
  · exact L.nx _ _ _ _ _ hn (E1.mut h1 k3 (.inr ⟨_, rfl⟩) (fun ps z => by cases z) ⟨a, _, h1, k2, upd_same, ru.merge k4⟩ fun _ => rfl)
end
section
variable [Bas] [Tabz]
local instance (priority := high) yoFam3 : Fam := famS
/-- d.update({..}), d of the store -/
def dSUpd (f g : DF) : DS := fun E ρ n => f ρ n fun x n1 => ∃ a, x = .d (hnd a) ∧ (∃ kvs0, n1.2 a = some (.dK kvs0)) ∧ g ρ n1 fun r n2 => ∃ kvs, n2.2 a = some (.dK kvs) ∧ ∃ more, r = .dic more ∧ kvs.length + more.length ≤ 100000 ∧ E.nx ρ (n2.1, sset n2.2 a (.dK (mergeD kvs more)))
theorem psSUpd {X : Cx} {o e : Expr} {apos cpos pos : Pos} {f g : DF} (ho : PE X o (tD f)) (he : PE X e (tD g)) (m : M1 X o "update" apos e cpos) (hs : swapsWith (.Call (.Attribute o "update" apos) [e] [] cpos) none pos.line X.env = pure false := by rfl) :
    PS X (.Expr (.Call (.Attribute o "update" apos) [e] [] cpos) pos) (sD (dSUpd f g)) := (ps_expr (pe_dupd ho he m) hs).imp fun D σ H ⟨c, A, n, ρ, E, e, hf, L⟩ => by
  refine ⟨c, A, n, ρ, _, e, hf, fun v x n1 H1 ⟨a, ex, ⟨kvs0, e0⟩, hg⟩ f1 o1 => ?_⟩
  subst ex
  cases o1
  have E1 := e.fr f1
  obtain ⟨⟨ws0, h1, h2⟩, _⟩ := E1.sat e0
  refine ⟨a, rfl, .inl ⟨ws0, .inl h1⟩, c, A, n1, ρ, _, E1, hg, fun w r n2 H2 ⟨kvs, es, more, er, hl, hn⟩ f2 o2 => ?_⟩
  subst er
  have E2 := E1.fr f2
  obtain ⟨⟨ws, k1, k2⟩, _⟩ := E2.sat es
  obtain ⟨b, us, rfl, g1, g2, g3⟩ := o2
  have ne : a ≠ b := fun z => g1.2 (.inl (.inr (.inr (by rw [← z, es]; exact fun q => by cases q))))
  have ru : KRp (msk (c.av n2 A) H2) us more := g3.ex fun x o _ ex => by
    obtain ⟨y1, y2⟩ := msk_some ex
    rw [msk_out fun z => y1 (.inl z)]
    exact y2
  refine ⟨b, ws, us, rfl, ne, k1, g2, ?_, ?_⟩
  · rw [k2.length, ru.length]
    exact Nat.le_trans hl (by decide)
  · exact L.nx _ _ _ _ _ hn (E2.smut es ⟨_, upd_same, ru.merge k2⟩ (fun _ z => by cases z))
end

/-! ### a def that keeps a store of its own, seen from where there is none -/
section
variable [Bas] [Tabz] {P : Program} {w : World} {K : PySem.W.Frag} {mg : Str → Option Value} {base : Heap}
local instance (priority := low) downFam : Fam := famB
theorem down {k : Nat} {f : Addr} {fd : FuncData} {ps : List Str} {mS : @DM famS} {m : @DM famB} (F : FnOk P w K mg base CX0 k f fd ps (@spD famS _ mS))
    (h : ∀ rs n Q, m rs n Q → mS rs (n, fun _ => none) fun r n' => Q r n'.1) : FnOk P w K mg base CX0 k f fd ps (@spD famB _ m) := F.imp fun vs H Q E ⟨c, n, rs, Q', h0, hn, g, pn, ok, hm, kk⟩ => by
  subst h0
  subst hn
  have pS : ∀ {a : Addr}, Bas.Pq c.u c.t a ∨ (none : Option SO) ≠ none → Bas.Pq c.u c.t a := fun h => h.elim id fun z => absurd rfl z
  let c' : @EC famS := @EC.mk famS c.H0 (c.n0, fun _ => none) c.B0 c.t c.u [] fun a ha => ⟨(c.Bs a ha).1, fun z => (c.Bs a ha).2 (pS z)⟩
  have eB : @EC.B famS c' (c.n0, fun _ => none) = @EC.B famB c c.n0 := by
    funext a
    exact propext ⟨fun z => z.imp id pS, fun z => z.imp id .inl⟩
  refine ⟨c', (c.n0, fun _ => none), rs, fun r n' => Q' r n'.1, rfl, rfl, ⟨⟨g.1, fun a o e => by cases e⟩, g.2⟩, rfl, by rw [eB]; exact ok, h _ _ _ hm, fun v r n' H' hq f o => ?_⟩
  have sub : ∀ {a : Addr}, @EC.B famB c n'.1 a → @EC.B famS c' n' a := fun z => z.imp id .inl
  have xt : Xt (msk (@EC.B famS c' n') H') (msk (@EC.B famB c n'.1) H') := fun b o _ e => by
    obtain ⟨h1, h2⟩ := msk_some e
    rw [msk_out fun z => h1 (sub z)]
    exact h2
  have xt2 : ∀ a, Xt (msk (fun b => @EC.B famS c' n' b ∨ b = a) H') (msk (fun b => @EC.B famB c n'.1 b ∨ b = a) H') := fun a b o _ e => by
    obtain ⟨h1, h2⟩ := msk_some e
    rw [msk_out fun z => h1 (z.imp sub id)]
    exact h2
  refine kk v r n'.1 H' hq ⟨fun b o q e => ⟨fun p => ?_, (f.1 b o q e).2⟩, f.2.1.1, f.2.2⟩ ?_
  · obtain ⟨e1, e2⟩ := (f.1 b o q e).1 fun z => p (pS z)
    exact ⟨e1, fun z => e2 (.inl z)⟩
  · cases r with
    | un => exact o
    | tape => exact o
    | raw v => exact o
    | d x => exact Rp.ex o xt
    | own ds =>
      obtain ⟨a, vs, h1, h2, h3, h4⟩ := o
      exact ⟨a, vs, h1, ⟨h2.1, fun z => h2.2 (sub z)⟩, h3, h4.ex (xt2 a)⟩
    | dic kvs =>
      obtain ⟨a, vs, h1, h2, h3, h4⟩ := o
      exact ⟨a, vs, h1, ⟨h2.1, fun z => h2.2 (sub z)⟩, h3, h4.ex (xt2 a)⟩
end
theorem pds0 [Fam] [Tabz] {X : Cx} {pos : Pos} : PPs X pos [] [] (trsD []) := pps_nil
theorem pds1 [Fam] [Tabz] {X : Cx} {pos : Pos} {k v : Expr} {ks : List (Option Expr)} {vs : List Expr} {f g : DF} {fs : List (DF × DF)} (hk : PE X k (tD f)) (hv : PE X v (tD g)) (h : PPs X pos ks vs (trsD fs)) : PPs X pos (some k :: ks) (v :: vs) (trsD ((f, g) :: fs)) := pps_cons hk hv h

/-! ### a def that knows no store, called where there is one -/
section
variable [Bas] [Tabz] {P : Program} {w : World} {K : PySem.W.Frag} {mg : Str → Option Value} {base : Heap}
local instance (priority := low) upFam : Fam := famS
theorem up {k : Nat} {f : Addr} {fd : FuncData} {ps : List Str} {mB : @DM famB} {m : @DM famS} (F : FnOk P w K mg base CX0 k f fd ps (@spD famB _ mB))
    (h : ∀ rs (n : Int × Sto) Q, m rs n Q → mB rs n.1 fun r n' => Q r (n', n.2)) : FnOk P w K mg base CX0 k f fd ps (@spD famS _ m) := F.imp fun vs H Q E ⟨c, n, rs, Q', h0, hn, g, pn, ok, hm, kk⟩ => by
  subst h0
  subst hn
  have gs : ∀ a o, c.n0.2 a = some o → SReal (msk (@EC.B famS c c.n0) c.H0) c.H0 a o ∧ ¬ Bas.Pq c.u c.t a := g.1.2
  let c' : @EC famB := @EC.mk famB c.H0 c.n0.1 (fun a => c.B0 a ∨ c.n0.2 a ≠ none) c.t c.u [] fun a ha => by
    rcases ha with ha | ha
    · exact ⟨(c.Bs a ha).1, fun z => (c.Bs a ha).2 (.inl z)⟩
    · cases e : c.n0.2 a with
      | none => exact absurd e ha
      | some o =>
        obtain ⟨r, np⟩ := gs a o e
        refine ⟨?_, np⟩
        obtain ⟨w, h1, h2, _⟩ := r.at
        exact ⟨w, h1, h2⟩
  have eB : ∀ i : Int, @EC.B famB c' i = @EC.B famS c (i, c.n0.2) := fun i => by
    funext a
    exact propext ⟨fun z => z.elim (fun z => z.elim .inl fun z => .inr (.inr z)) fun z => .inr (.inl z), fun z => z.elim (fun z => .inl (.inl z)) fun z => z.elim .inr fun z => .inl (.inr z)⟩
  have ok2 : @VsOk c.t (@EC.B famB c' c.n0.1) c.H0 c.H0 vs rs := by rw [eB]; exact ok
  refine ⟨c', c.n0.1, rs, fun r n' => Q' r (n', c.n0.2), rfl, rfl, ⟨g.1.1, g.2⟩, rfl, ok2, h _ _ _ hm, fun v r n' H' hq f o => ?_⟩
  have o2 : VOk c.t (@EC.B famS c (n', c.n0.2)) c.H0 v H' r := by rw [← eB]; exact o
  have still : ∀ b o, (∀ ps, o ≠ HO.tbl ps) → ¬ Bas.Pq c.u c.t b → c.H0 b = some o → H' b = some o := fun b o q p e => ((f.1 b o q e).1 p).1
  have xt : Xt (msk (@EC.B famS c c.n0) c.H0) (msk (hide r v (@EC.av famS c (n', c.n0.2) A0)) H') := fun b o q e => by
    obtain ⟨h1, h2⟩ := msk_some e
    rw [msk_out]
    · exact still b o q (fun z => h1 (.inr (.inl z))) h2
    · have nb : ¬ @EC.av famS c (n', c.n0.2) A0 b := fun z => z.elim h1 fun ⟨i, z⟩ => by cases z
      have fr : ∀ a', Fresh c.H0 a' → v = .ref a' → v ≠ .ref b := fun a' fa e1 e2 => by
        rw [e1] at e2
        cases e2
        obtain ⟨ps, e3⟩ := fa o h2
        exact q ps e3
      cases r with
      | own ds =>
        obtain ⟨a', vs', e1, e2, _⟩ := o2
        exact fun z => z.elim nb (fr a' e2.1 e1)
      | dic ds =>
        obtain ⟨a', vs', e1, e2, _⟩ := o2
        exact fun z => z.elim nb (fr a' e2.1 e1)
      | _ => exact nb
  refine kk v r (n', c.n0.2) H' hq ⟨fun b o q e => ⟨fun p => ?_, (f.1 b o q e).2⟩, ⟨f.2.1, fun a o e => ⟨?_, (gs a o e).2⟩⟩, f.2.2⟩ o2
  · obtain ⟨e1, e2⟩ := (f.1 b o q e).1 fun z => p (.inl z)
    exact ⟨e1, fun z => z.elim e2 fun z => p (.inr z)⟩
  · obtain ⟨r1, np⟩ := gs a o e
    exact r1.ex xt fun u e => by
      obtain ⟨w, h1, h2, _⟩ := r1.at
      rw [h1] at e
      cases e
      exact still a _ h2 np h1
end
section
variable [Bas] [Tabz] {P : Program} {w : World} {K : PySem.W.Frag} {mg : Str → Option Value} {base : Heap}
/-- a contract without a store, where there is one -/
abbrev upM (mB : @DM famB) : @DM famS := fun rs n Q => mB rs n.1 fun r n' => Q r (n', n.2)
theorem up_D {k : Nat} {x : Str} {ps : List Str} {mB : @DM famB} (h : Cal P w K mg base k x ps (@spD famB _ mB)) : Cal P w K mg base k x ps (@spD famS _ (upM mB)) := by
  obtain ⟨f, fd, G, r⟩ := h
  exact ⟨f, fd, up G fun _ _ _ h => h, r⟩
end

/-! ### a store: extend, lists of it against data -/
section
variable [Bas] [Tabz]
local instance (priority := high) yoFam6 : Fam := famS
/-- xs.extend(e), xs of the store -/
def dSExt (f g : DF) : DS := fun E ρ n => f ρ n fun x n1 => ∃ a ds0, x = .d (hnd a) ∧ n1.2 a = some (.lst ds0) ∧ g ρ n1 fun r n2 => ∃ ds, n2.2 a = some (.lst ds) ∧ ∃ es, r.dat = some (.list es) ∧ ds.length + es.length ≤ 100000 ∧ E.nx ρ (n2.1, sset n2.2 a (.lst (ds ++ es)))
theorem psSExt {X : Cx} {e : Expr} {f g : DF} {pos : Pos} (hs : swapsWith e none pos.line X.env = pure false) (h : PE X e (tBM X.K "list" rExtend (tD f) (tCons (tD g) tNil))) : PS X (.Expr e pos) (sD (dSExt f g)) := (ps_expr h hs).imp fun D σ H ⟨c, A, n, ρ, E, e, hf, L⟩ => by
  refine ⟨c, A, n, ρ, _, e, hf, fun v x n1 H1 ⟨a, ds0, ex, e0, hg⟩ f1 o1 => ?_⟩
  subst ex
  cases o1
  have E1 := e.fr f1
  obtain ⟨⟨vs, h1, h2⟩, _⟩ := E1.sat e0
  refine ⟨.inl ⟨rfl, _, SqL.of h1⟩, c, A, n1, ρ, _, E1, hg, fun w r n2 H2 ⟨ds, es, xs, ed, hl, hn⟩ f2 o2 => ?_⟩
  have E2 := E1.fr f2
  obtain ⟨⟨vs', k1, k2⟩, _⟩ := E2.sat es
  have rv := o2.dat E1 ed
  cases rv with
  | lst hb rb =>
    refine ⟨a, _, vs', _, rfl, rfl, k1, (msk_some hb).2, big_line (by rw [k2.length, rb.length]; exact hl), ?_⟩
    exact L.nx _ _ _ _ _ hn (E2.smut es ⟨_, upd_same, k2.app rb⟩ (fun _ z => by cases z))
/-- a list of the store against data -/
def dNeS (f g : DF) : DT := fun ρ n Q => f ρ n fun x n1 => ∃ a, x = .d (hnd a) ∧ g ρ n1 fun y n2 => ∃ ds e, n2.2 a = some (.lst ds) ∧ y.dat = some e ∧ SeqAt.shaped (.list ds) = true ∧ SeqAt.shaped e = true ∧ Q (!PyData.eqv (.list ds) e) n2
theorem ptNeS {X : Cx} {a b : Expr} {f g : DF} {pos : Pos} (hu : X.A.units + 64 < cLine) (ha : PE X a (tD f)) (hb : PE X b (tD g)) (hm : behindInMarks .NotEq b = false := by rfl) : PT X (.Compare a [.NotEq] [b] pos) (tDT (dNeS f g)) := (pt_cmpR (op_neD hu) ha hb hm).imp fun σ H Q ⟨c, A, n, ρ, Q', E, hf, k⟩ => by
  refine ⟨c, A, n, ρ, _, E, hf, fun v x n1 H1 ⟨a, ex, hg⟩ f1 o1 => ?_⟩
  subst ex
  cases o1
  have E1 := E.fr f1
  refine ⟨c, A, n1, ρ, _, E1, hg, fun w y n2 H2 ⟨ds, e, es, ed, s1, s2, hq⟩ f2 o2 => ?_⟩
  have E2 := E1.fr f2
  obtain ⟨⟨vs, h1, h2⟩, _⟩ := E2.sat es
  have r1 : Rp H2 (.ref a) (.list ds) := .lst h1 (h2.ex msk_le)
  exact ⟨_, _, r1.dp (Bool.and_eq_true_iff.mp s1).1, up_msk (o2.dat E1 ed) s2, s1, s2, _, rfl, k _ n2 H2 hq (f1.trans f2).fr⟩
end

/-! ### walks over what stands in the store -/
section
variable [Fam] [Tabz]
/-- what is walked while I holds of the state -/
def WDs (c : EC) (l : List (V × PyData)) (J : It) (ds : List PyData) (I : Fam.S → Prop) : Prop := ∀ A n σ H ρ, EnvA (c.pin l) A n σ H ρ → I n →
  (∀ i d, ds[i]? = some d → J.go i H ∧ ∀ x H2, J.yld i H x H2 → (∀ b o, H b = some o → H2 b = some o) ∧ Rp (msk (c.av n A) H2) x d) ∧ J.stop ds.length H
abbrev DIS := List DV → Fam.S → (List PyData → (Fam.S → Prop) → Fam.S → Prop) → Prop
def iDS (f : DIS) : TI := fun σ H R => ∃ (c : EC) (A : Nat → Option Addr) (n : Fam.S) (ρ : List DV) (Q' : List PyData → (Fam.S → Prop) → Fam.S → Prop), EnvA c A n σ H ρ ∧ f ρ n Q' ∧ ∀ ds I J n' H' l, Q' ds I n' → Fr c A n n' H H' → (∀ p ∈ l, Rp (msk (c.av n' A) H') p.1 p.2) → WDs c l J ds I → R J H'
def dForS (f : DIS) (g : DG) (F : DS) : DS := fun E ρ n => f ρ n fun ds I n1 => ∃ W : Nat → List DV → Fam.S → Prop, W 0 ρ n1 ∧ (∀ i ρ n, W i ρ n → I n) ∧ (∀ i d ρ n, ds[i]? = some d → W i ρ n → ∃ ρ', g d ρ = some ρ' ∧ F { E with nx := W (i + 1), ct := W (i + 1), bk := E.nx } ρ' n) ∧ ∀ ρ n, W ds.length ρ n → E.nx ρ n
theorem psForS {X : Cx} {tg iter : Expr} {body : List Stmt} {f : DIS} {sl : List Nat} {g : DG} {F : DS} {pos : Pos} (hp : PassesOwn (model X.prog X.w) X.A X.env X.xe) (hc : X.calm = true) (hi : PI X tg iter (iDS f)) (hg : PG X tg (gD sl g)) (hb : PSs X body (sD F))
    (hs : ∀ x, foldedSetIterable iter X.env x = pure x := by intro _; rfl) : PS X (.For tg iter body [] pos) (sD (dForS f g F)) := (ps_for hp hc hi hg hb hs).imp fun D σ H ⟨c, A, n, ρ, E, e, hf, L⟩ => by
  refine ⟨c, A, n, ρ, _, e, hf, fun ds I J n1 H1 l ⟨W, w0, wi, ws, wd⟩ f1 pins wD => ?_⟩
  refine ⟨fun i m σ H => m = ds.length - i ∧ i ≤ ds.length ∧ ∃ A n ρ, EnvA (c.pin l) A n σ H ρ ∧ W i ρ n, ⟨ds.length, by simp, Nat.zero_le _, A, n1, ρ, (e.fr f1).pins pins, w0⟩, ?_⟩
  rintro i m σ H ⟨rfl, hi, A, n, ρ, e', w⟩
  have q := wD A n σ H ρ e' (wi i ρ n w)
  by_cases hlt : i < ds.length
  · obtain ⟨go, yl⟩ := q.1 i ds[i] (List.getElem?_eq_getElem hlt)
    refine .inr ⟨go, fun σ H => ∃ A n ρ, EnvA (c.pin l) A n σ H ρ ∧ W (i + 1) ρ n, fun σ' H' w' => ⟨ds.length - (i + 1), by omega, rfl, hlt, w'⟩, fun x H2 y => ?_⟩
    obtain ⟨s, r⟩ := yl x H2 y
    obtain ⟨ρ', e1, h1⟩ := ws i ds[i] ρ n (List.getElem?_eq_getElem hlt) w
    have e2 : EnvA (c.pin l) A n σ H2 ρ := e'.fr (Fr.same e'.g s)
    refine ⟨c.pin l, A, n, ρ, ρ', ds[i], e2, r, e1, fun A' σ' e3 _ _ => ⟨c.pin l, A', n, ρ', _, e3, h1, ⟨?_, ?_, ?_, ?_⟩⟩⟩
    · exact fun A n σ H ρ h e4 => ⟨A, n, ρ, e4, h⟩
    · exact fun v r n H' h fr o => L.rt v r n H' h fr o
    · exact fun A n σ H ρ h e4 => L.nx A n σ H ρ h e4.unpin
    · exact fun A n σ H ρ h e4 => ⟨A, n, ρ, e4, h⟩
  · have z : i = ds.length := by omega
    subst z
    exact .inl ⟨q.2, L.nx A n σ H ρ (wd ρ n w) e'.unpin⟩
abbrev LcOkS (g : DG) (t : DT) (h : DF) (vs : List Nat) (ρ : List DV) (Q : DQ) (ds : List PyData) (I : Fam.S → Prop) (n1 : Fam.S) : Prop := (vs.all fun j => match ρ[j]? with | some x => !x.isOwn | none => false) = true ∧ ds.length ≤ 100000 ∧ ∃ W : Nat → List PyData → Fam.S → Prop, W 0 [] n1 ∧ (∀ i acc n, W i acc n → I n) ∧
  (∀ i d acc n, ds[i]? = some d → W i acc n → ∃ ρ', g d (wipeD ρ vs) = some ρ' ∧ t ρ' n fun b n2 => if b = true then h ρ' n2 fun r n3 => ∃ y, r.dat = some y ∧ W (i + 1) (acc ++ [y]) n3 else W (i + 1) acc n2) ∧ ∀ acc n, W ds.length acc n → Q (.own acc) n
def dLcS (f : DIS) (g : DG) (t : DT) (h : DF) (vs : List Nat) : DF := fun ρ n Q => f ρ n fun ds I n1 => LcOkS g t h vs ρ Q ds I n1
/-- [h x for x in xs] -/
theorem lcMapS {g : DG} {h : DF} {vs : List Nat} {ρ : List DV} {n : Fam.S} {I : Fam.S → Prop} {Q : DQ} {ds : List PyData} (out : List PyData) (own : (vs.all fun j => match ρ[j]? with | some x => !x.isOwn | none => false) = true) (big : ds.length ≤ 100000) (hl : out.length = ds.length)
    (step : ∀ (i : Nat) (d y : PyData), ds[i]? = some d → out[i]? = some y → ∃ ρ', g d (wipeD ρ vs) = some ρ' ∧ ∀ R : DQ, (∀ r, r.dat = some y → R r n) → h ρ' n R) (q : Q (.own out) n)   (hI : I n) : LcOkS g (fun _ n Q => Q true n) h vs ρ Q ds I n := by
  refine ⟨own, big, fun i acc m => m = n ∧ acc = out.take i, ⟨rfl, rfl⟩, (fun i acc m z => by rw [z.1]; exact hI), ?_, ?_⟩
  · rintro i d acc m hd ⟨rfl, rfl⟩
    have hi : i < out.length := by rw [hl]; exact (List.getElem?_eq_some_iff.mp hd).1
    obtain ⟨y, ey⟩ : ∃ y, out[i]? = some y := ⟨_, List.getElem?_eq_getElem hi⟩
    obtain ⟨ρ', e1, h1⟩ := step i d y hd ey
    refine ⟨ρ', e1, ?_⟩
    show (if true = true then _ else _)
    rw [if_pos rfl]
    exact h1 _ fun r er => ⟨y, er, rfl, by rw [List.take_succ, ey]; rfl⟩
  · rintro acc m ⟨rfl, rfl⟩
    rw [← hl, List.take_length]
    exact q

theorem lcFilS {g : DG} {t : DT} {h : DF} {vs : List Nat} {ρ : List DV} {n : Fam.S} {I : Fam.S → Prop} {Q : DQ} {ds : List PyData} (p : PyData → Bool) (own : (vs.all fun j => match ρ[j]? with | some x => !x.isOwn | none => false) = true) (big : ds.length ≤ 100000)
    (step : ∀ d, d ∈ ds → ∃ ρ', g d (wipeD ρ vs) = some ρ' ∧ (∀ R : Bool → Fam.S → Prop, R (p d) n → t ρ' n R) ∧ ∀ R : DQ, R (.d d) n → h ρ' n R) (q : Q (.own (ds.filter p)) n)   (hI : I n) : LcOkS g t h vs ρ Q ds I n := by
  refine ⟨own, big, fun i acc m => m = n ∧ acc = (ds.take i).filter p, ⟨rfl, rfl⟩, (fun i acc m z => by rw [z.1]; exact hI), ?_, ?_⟩
  · rintro i d acc m hd ⟨rfl, rfl⟩
    obtain ⟨ρ', e1, h1, h2⟩ := step d (List.mem_of_getElem? hd)
    refine ⟨ρ', e1, h1 _ ?_⟩
    have et : (ds.take (i + 1)).filter p = (ds.take i).filter p ++ if p d = true then [d] else [] := by
      rw [List.take_succ, hd, List.filter_append]
      congr 1
      cases e : p d with
      | true => simp [e]
      | false => simp [e]
    cases e : p d with
    | true =>
      rw [if_pos rfl]
      refine h2 _ ⟨d, rfl, rfl, ?_⟩
      rw [et, e, if_pos rfl]
    | false =>
      rw [if_neg Bool.false_ne_true]
      refine ⟨rfl, ?_⟩
      rw [et, e, if_neg Bool.false_ne_true, List.append_nil]
  · rintro acc m ⟨rfl, rfl⟩
    rw [List.take_length] at *
    exact q
theorem lcFMS {g : DG} {t : DT} {h : DF} {vs : List Nat} {ρ : List DV} {n : Fam.S} {I : Fam.S → Prop} {Q : DQ} {ds : List PyData} (p : PyData → Bool) (out : PyData → PyData) (own : (vs.all fun j => match ρ[j]? with | some x => !x.isOwn | none => false) = true) (big : ds.length ≤ 100000)
    (step : ∀ d, d ∈ ds → ∃ ρ', g d (wipeD ρ vs) = some ρ' ∧ (∀ R : Bool → Fam.S → Prop, R (p d) n → t ρ' n R) ∧ (p d = true → ∀ R : DQ, (∀ r, r.dat = some (out d) → R r n) → h ρ' n R)) (q : Q (.own ((ds.filter p).map out)) n)   (hI : I n) : LcOkS g t h vs ρ Q ds I n := by
  refine ⟨own, big, fun i acc m => m = n ∧ acc = ((ds.take i).filter p).map out, ⟨rfl, rfl⟩, (fun i acc m z => by rw [z.1]; exact hI), ?_, ?_⟩
  · rintro i d acc m hd ⟨rfl, rfl⟩
    obtain ⟨ρ', e1, h1, h2⟩ := step d (List.mem_of_getElem? hd)
    refine ⟨ρ', e1, h1 _ ?_⟩
    have et : ((ds.take (i + 1)).filter p).map out = ((ds.take i).filter p).map out ++ if p d = true then [out d] else [] := by
      rw [List.take_succ, hd, List.filter_append, List.map_append]
      congr 1
      cases e : p d with
      | true => simp [e]
      | false => simp [e]
    cases e : p d with
    | true =>
      rw [if_pos rfl]
      refine h2 e _ fun r er => ⟨_, er, rfl, ?_⟩
      rw [et, e, if_pos rfl]
    | false =>
      rw [if_neg Bool.false_ne_true]
      refine ⟨rfl, ?_⟩
      rw [et, e, if_neg Bool.false_ne_true, List.append_nil]
  · rintro acc m ⟨rfl, rfl⟩
    rw [List.take_length] at *
    exact q
theorem lc_leS {f : DIS} {g : DG} {sl vs : List Nat} {t : DT} {tt : TT} {h : DF} (hsl : ∀ j ∈ sl, j ∈ vs) (ht : ∀ σ H Q, tDT t σ H Q → tt σ H Q) (σ : L2.St) (H : Hp) (Q : VK) (q : tD (dLcS f g t h vs) σ H Q) : tLc (iDS f) (gD sl g) tt (tD h) vs σ H Q := by
  obtain ⟨c, A, n, ρ, Q', E, hf, k⟩ := q
  refine ⟨c, A, n, ρ, _, E, hf, fun ds I J n1 H1 l ⟨nown, big, W, w0, wi, ws, wd⟩ f1 pins wD D hD => ?_⟩
  have E1 := E.fr f1
  obtain ⟨M, hM⟩ := bound_of vs
  obtain ⟨kD, A1, hk, hkM, hA1, sameA, hAk, ES⟩ := E1.side (xs := []) hD M
  have vA1 : ∀ j ∈ vs, A1 j = none := fun j hj => by
    have hb := List.all_eq_true.mp nown j hj
    have nk : j ≠ kD := by
      have := hM j hj
      omega
    cases e : A1 j with
    | none => rfl
    | some a =>
      cases er : ρ[j]? with
      | none =>
        rw [er] at hb
        cases hb
      | some x =>
        have := ES.mine j a x e er
        rw [er] at hb
        have hb' : (!x.isOwn) = true := hb
        rw [this] at hb'
        cases hb'
  have Ep : EnvA (c.pin l) A1 n1 σ (upd H1 D (.lst [])) ρ := ES.pins fun p hp => (pins p hp).ex fun b o q e => by
    obtain ⟨h1, h2⟩ := msk_some e
    have nb : b ≠ D := fun z => by rw [z, hD] at h2; cases h2
    rw [msk_out]
    · rw [upd_ne nb]; exact h2
    · rintro (z | ⟨j, z⟩)
      · exact h1 (.inl z)
      · by_cases e : j = kD
        · rw [e, hA1] at z
          exact nb (Option.some.inj z).symm
        · rw [sameA j e] at z
          exact h1 (.inr ⟨j, z⟩)
  refine ⟨fun i m H2 => m = ds.length - i ∧ i ≤ ds.length ∧ ∃ n vals acc, EnvA (c.pin l) A1 n σ H2 ρ ∧ H2 D = some (.lst vals) ∧ RpA (msk (c.av n A1) H2) vals acc ∧ acc.length ≤ i ∧ W i acc n ∧ Stay (c.P n1) (c.P n) H1 H2, ⟨ds.length, by simp, Nat.zero_le _, n1, [], [], Ep, upd_same, .nil, Nat.le_refl _, w0, .same fun b o e => by rw [upd_ne (ne_of_none e hD)]; exact e⟩, ?_⟩
  rintro i m H2 ⟨rfl, hi, n2, vals, acc, e2, hv, rv, la, w, kp⟩
  have qD := wD A1 n2 σ H2 ρ e2 (wi i acc n2 w)
  have nD : ¬ c.P n2 D := fun p => (e2.nP hA1) (c.PB p)
  have avD : ∀ n, c.av n A1 D := fun n => .inr ⟨kD, hA1⟩
  by_cases hlt : i < ds.length
  · obtain ⟨go, yl⟩ := qD.1 i ds[i] (List.getElem?_eq_getElem hlt)
    refine .inr ⟨go, fun H2 => ∃ n vals acc, EnvA (c.pin l) A1 n σ H2 ρ ∧ H2 D = some (.lst vals) ∧ RpA (msk (c.av n A1) H2) vals acc ∧ acc.length ≤ i + 1 ∧ W (i + 1) acc n ∧ Stay (c.P n1) (c.P n) H1 H2, fun H' w' => ⟨ds.length - (i + 1), by omega, rfl, hlt, w'⟩, fun x H3 y => ?_⟩
    obtain ⟨s3, r3⟩ := yl x H3 y
    obtain ⟨ρ', eg, et⟩ := ws i ds[i] acc n2 (List.getElem?_eq_getElem hlt) w
    have f3 : Fr (c.pin l) A1 n2 n2 H2 H3 := Fr.same e2.g s3
    have e3 : EnvA (c.pin l) A1 n2 (L2.wipe σ vs) H3 (wipeD ρ vs) := (e2.fr f3).wipe vs vA1
    refine ⟨c.pin l, A1, n2, _, ρ', ds[i], e3, r3, eg, fun A' σ' e4 l4 o4 => ⟨wipe_eq l4 fun j hj => (o4 j fun z => hj (hsl j z)).1, ?_⟩⟩
    have back : ∀ {n5 : Fam.S} {H5 : Hp} {v : V} {r : DV}, FrV (c.pin l) A' n2 n5 H3 H5 v r → EnvA (c.pin l) A1 n5 σ H5 ρ ∧ H5 D = some (.lst vals) ∧ RpA (msk (c.av n5 A1) H5) vals acc ∧ Stay (c.P n1) (c.P n5) H1 H5 := fun {n5 H5 v r} f5 => by
      have g5 : Fr (c.pin l) A1 n2 n5 H3 H5 := ⟨f5.1, (c.pin l).Gmk f5.g fun i a e => ⟨i, by rw [(o4 i fun z => by rw [vA1 i (hsl i z)] at e; cases e).2]; exact e⟩⟩
      have f25 := f3.trans g5
      exact ⟨e2.fr f25, f25.k D _ nD (fun ps z => by cases z) hv, rv.ex f25.msk, kp.trans f25.1⟩
    refine ht σ' H3 _ ⟨c.pin l, A', n2, ρ', _, e4, et, fun b n4 H4 hb f4 => ?_⟩
    cases b with
    | false =>
      obtain ⟨b1, b2, b3, b4⟩ := back f4
      exact ⟨n4, vals, acc, b1, b2, b3, Nat.le_succ_of_le la, hb, b4⟩
    | true =>
      refine ⟨c.pin l, A', n4, ρ', _, e4.fr f4, hb, fun v r n5 H5 ⟨y, ey, hw⟩ f5 o5 => ?_⟩
      obtain ⟨b1, b2, b3, b4⟩ := back (f4.trans f5)
      have ry := o5.dat (e4.fr f4) ey
      have ll : vals.length < sizeLine := big_lt (by rw [rv.length]; omega)
      refine ⟨vals, b2, ll, ?_⟩
      have ry1 : Rp (msk (c.av n5 A1) H5) v y := ry.ex fun b o _ e => by
        obtain ⟨h1, h2⟩ := msk_some e
        rw [msk_out]
        · exact h2
        · rintro (z | ⟨j, z⟩)
          · exact h1 (.inl z)
          · by_cases hj : j ∈ sl
            · rw [vA1 j (hsl j hj)] at z
              cases z
            · exact h1 (.inr ⟨j, by rw [(o4 j hj).2]; exact z⟩)
      have mk : msk (c.av n5 A1) (upd H5 D (.lst (vals ++ [v]))) = msk (c.av n5 A1) H5 := by
        funext b
        by_cases z : c.av n5 A1 b
        · unfold msk
          rw [if_pos z, if_pos z]
        · rw [msk_out z, msk_out z, upd_ne (fun e => z (by rw [e]; exact avD n5))]
      have m1 := b1.mut (r := .un) (u := .lst (vals ++ [v])) hA1 b2 (.inl ⟨_, rfl⟩) (fun ps z => by cases z) True.intro (fun z => by omega)
      rw [List.set_eq_of_length_le hk] at m1
      refine ⟨n5, vals ++ [v], acc ++ [y], m1, upd_same, by rw [mk]; exact b3.app (.one ry1), by rw [List.length_append]; show acc.length + 1 ≤ _; omega, hw, fun b o q e => ?_⟩
      rw [upd_ne (fun z => by rw [z, hD] at e; cases e)]
      exact b4 b o q e
  · have z : i = ds.length := by omega
    subst z
    refine .inl ⟨qD.2, ?_⟩
    have up : ∀ {b : Addr}, c.av n2 A b → c.av n2 A1 b := fun {b} z => z.imp id fun ⟨j, e⟩ => ⟨j, by rw [sameA j fun z => by rw [z, hAk] at e; cases e]; exact e⟩
    have fE : FrV c A n1 n2 H1 H2 (.ref D) (.own acc) := ⟨kp, c.Gx e2.g fun b o _ e => by
      obtain ⟨h1, h2⟩ := msk_some e
      rw [msk_out]
      · exact h2
      · rintro (z | z)
        · exact h1 (up z)
        · cases z
          exact h1 (avD n2)⟩
    have nd : ¬ c.av n2 A D := by
      rintro (z | ⟨j, z⟩)
      · exact e2.nP hA1 z
      · have nj : j ≠ kD := fun e => by
          rw [e, hAk] at z
          cases z
        exact nj (e2.inj j kD D (by rw [sameA j nj]; exact z) hA1)
    refine k _ _ n2 H2 (wd acc n2 w) (f1.trans fE) ⟨D, vals, rfl, ⟨(Fresh.of hD).fr f1, nd⟩, hv, rv.ex fun b o _ e => ?_⟩
    obtain ⟨h1, h2⟩ := msk_some e
    rw [msk_out]
    · exact h2
    · rintro ((z | ⟨j, z⟩) | z)
      · exact h1 (.inl z)
      · by_cases e : j = kD
        · rw [e, hAk] at z
          cases z
        · exact h1 (.inr ⟨j, by rw [sameA j e]; exact z⟩)
      · exact h1 (by rw [z]; exact avD n2)
end
section
variable [Bas] [Tabz]
local instance (priority := high) yoFam7 : Fam := famS
theorem sset_sset {S : Sto} {a : Addr} {o o' : SO} : sset (sset S a o) a o' = sset S a o' := by
  funext b
  by_cases e : b = a
  · rw [e, sset_eq, sset_eq]
  · rw [sset_ne e, sset_ne e, sset_ne e]
theorem sset_self {S : Sto} {a : Addr} {o : SO} (h : S a = some o) : sset S a o = S := by
  funext b
  by_cases e : b = a
  · rw [e, sset_eq, h]
  · rw [sset_ne e]
theorem P_sset {c : EC} {n : Fam.S} {a : Addr} {o o' : SO} (h : n.2 a = some o) {b : Addr} : c.P (n.1, sset n.2 a o') b ↔ c.P n b := by
  have hp : c.P n a := .inr (by rw [h]; exact fun z => by cases z)
  constructor
  · rintro (p | p)
    · exact .inl p
    · by_cases e : b = a
      · rw [e]; exact hp
      · have p' : sset n.2 a o' b ≠ none := p
        rw [sset_ne e] at p'
        exact .inr p'
  · rintro (p | p)
    · exact .inl p
    · refine .inr ?_
      show sset n.2 a o' b ≠ none
      by_cases e : b = a
      · rw [e, sset_eq]; exact fun z => by cases z
      · rw [sset_ne e]; exact p
theorem av_ss {c : EC} {A : Nat → Option Addr} {n : Fam.S} {a : Addr} {o o' : SO} (h : n.2 a = some o) : c.av (n.1, sset n.2 a o') A = c.av n A := by
  funext b
  exact propext ⟨fun z => z.imp (fun z => z.imp id (P_sset h).mp) id, fun z => z.imp (fun z => z.imp id (P_sset h).mpr) id⟩
/-- a thing of the store is another: what else stays -/
theorem Stay.ss {c : EC} {n : Fam.S} {a : Addr} {o o' : SO} {u : HO} {H : Hp} (h : n.2 a = some o) (ut : ∀ ps, u ≠ HO.tbl ps) : Stay (c.P n) (c.P (n.1, sset n.2 a o')) H (upd H a u) := fun b v q e => by
  have hp : c.P n a := .inr (by rw [h]; exact fun z => by cases z)
  refine ⟨fun p => ?_, ?_⟩
  · have nb : b ≠ a := fun z => p (by rw [z]; exact hp)
    exact ⟨by rw [upd_ne nb]; exact e, fun z => p ((P_sset h).mp z)⟩
  · by_cases z : b = a
    · rw [z]
      exact ⟨u, upd_same, ut⟩
    · rw [upd_ne z]
      exact ⟨v, e, q⟩
theorem msk_av {B : Addr → Prop} {H : Hp} {a : Addr} {u : HO} (h : B a) : msk B (upd H a u) = msk B H := by
  funext b
  by_cases z : B b
  · unfold msk
    rw [if_pos z, if_pos z]
  · rw [msk_out z, msk_out z, upd_ne (fun e => z (by rw [e]; exact h))]
theorem FrV.smut {c : EC} {A : Nat → Option Addr} {n n1 : Fam.S} {H H1 : Hp} {v : V} {r : DV} (f : FrV c A n n1 H H1 v r) {a : Addr} {o o' : SO} {u : HO} (h : n1.2 a = some o) (hr : SReal (_root_.Rh.msk (hide r v (c.av n1 A)) H1) (upd H1 a u) a o') (ut : ∀ ps, u ≠ HO.tbl ps) : FrV c A n (n1.1, sset n1.2 a o') H (upd H1 a u) v r := by
  have hp : c.P n1 a := .inr (by rw [h]; exact fun z => by cases z)
  have ava : hide r v (c.av n1 A) a := hide_le (.inl (.inr hp))
  have g0 : c.G n1 (_root_.Rh.msk (hide r v (c.av n1 A)) H1) H1 := f.2
  obtain ⟨w, hw, wt, we⟩ := (g0.1.2 a o h).1.at
  have nBa : ¬ Bas.Pq c.u c.t a := (g0.1.2 a o h).2
  refine ⟨f.1.trans (Stay.ss h ut), ?_⟩
  rw [av_ss h, msk_av ava]
  refine ⟨⟨Bas.mv g0.1.1 fun b v p e => ?_, fun b v e => ?_⟩, Tabs_mvE g0.2 fun b v n1 e => ?_⟩
  · rw [upd_ne fun z => nBa (by rw [← z]; exact p)]
    exact e
  · have e' : sset n1.2 a o' b = some v := e
    by_cases z : b = a
    · subst z
      rw [sset_eq] at e'
      cases e'
      exact ⟨hr, nBa⟩
    · rw [sset_ne z] at e'
      obtain ⟨r1, r2⟩ := g0.1.2 b v e'
      exact ⟨r1.ex (fun _ _ _ h => h) fun _ h => by rw [upd_ne z]; exact h, r2⟩
  · rw [upd_ne]
    · exact e
    · intro z
      rw [z, hw] at e
      cases e
      rcases n1 with ⟨ps, q⟩ | ⟨φ, q⟩
      · exact wt ps q
      · exact we φ q
theorem VOk.smut {c : EC} {A : Nat → Option Addr} {n1 : Fam.S} {H H1 : Hp} {v : V} {r : DV} {a : Addr} {o o' : SO} {u : HO} (h : n1.2 a = some o) (ok : VOk c.t (c.av n1 A) H v H1 r) : VOk c.t (c.av (n1.1, sset n1.2 a o') A) H v (upd H1 a u) r := by
  have ava : c.av n1 A a := .inl (.inr (.inr (by rw [h]; exact fun z => by cases z)))
  rw [av_ss h]
  cases r with
  | un => exact ok
  | tape => exact ok
  | raw v => exact ok
  | d x =>
    show Rp (msk (c.av n1 A) (upd H1 a u)) v x
    rw [msk_av ava]
    exact ok
  | own ds =>
    obtain ⟨p, vs, h1, h2, h3, h4⟩ := ok
    have np : p ≠ a := fun z => h2.2 (by rw [z]; exact ava)
    exact ⟨p, vs, h1, h2, by rw [upd_ne np]; exact h3, by rw [msk_av (.inl ava)]; exact h4⟩
  | dic ds =>
    obtain ⟨p, vs, h1, h2, h3, h4⟩ := ok
    have np : p ≠ a := fun z => h2.2 (by rw [z]; exact ava)
    exact ⟨p, vs, h1, h2, by rw [upd_ne np]; exact h3, by rw [msk_av (.inl ava)]; exact h4⟩
/-- while a dict of the store is walked it is locked -/
def lkQ {α : Type} (a : Addr) (od : Obj) (ws : List (Key × V)) (kvs : List (Key × PyData)) (Q : α → Fam.S → Prop) : α → Fam.S → Prop := fun r n => n.2 a = some (.dF od ws kvs) ∧ Q r (n.1, sset n.2 a (.dK kvs))
def lkE (a : Addr) (od : Obj) (ws : List (Key × V)) (kvs : List (Key × PyData)) (E : DE) : DE := ⟨lkQ a od ws kvs E.nx, lkQ a od ws kvs E.rt, lkQ a od ws kvs E.bk, lkQ a od ws kvs E.ct⟩
def dLock (F : DS) : DS := fun E ρ n => ∃ a kvs, n.2 a = some (.dK kvs) ∧ ∀ od ws, F (lkE a od ws kvs E) ρ (n.1, sset n.2 a (.dF od ws kvs))
theorem psLock {X : Cx} {st : Stmt} {F : DS} (h : PS X st (sD F)) : PS X st (sD (dLock F)) := (ps_lock h).imp fun D σ H ⟨c, A, n, ρ, E, e, ⟨a, kvs, es, hF⟩, L⟩ => by
  obtain ⟨⟨ws, h1, h2⟩, _⟩ := e.sat es
  have un : ∀ {A : Nat → Option Addr} {n : Fam.S} {σ : L2.St} {H : Hp} {ρ : List DV} {od : Obj}, EnvA c A n σ H ρ → n.2 a = some (.dF od ws kvs) → H a = some (.frz od (.dK ws)) ∧ EnvA c A (n.1, sset n.2 a (.dK kvs)) σ (upd H a (.dK ws)) ρ := fun e z => by
    obtain ⟨⟨q1, q2⟩, _⟩ := e.sat z
    exact ⟨q1, e.smut z ⟨ws, upd_same, q2⟩ (fun _ z => by cases z)⟩
  refine ⟨a, .dK ws, h1, True.intro, fun od => ⟨c, A, _, ρ, _, e.smut es (o' := .dF od ws kvs) ⟨upd_same, h2⟩ (fun _ z => by cases z), hF od ws, ⟨?_, ?_, ?_, ?_⟩⟩⟩
  · exact fun A n σ H ρ ⟨z, hn⟩ e' => ⟨(un e' z).1, L.nx _ _ _ _ _ hn (un e' z).2⟩
  · intro v r n H' ⟨z, hn⟩ f o
    have g0 : c.G n (msk (hide r v (c.av n A0)) H') H' := f.2
    obtain ⟨⟨q1, q2⟩, _⟩ := g0.1.2 a _ z
    refine ⟨q1, L.rt v r _ _ hn (f.smut z ⟨ws, upd_same, q2⟩ (fun _ z => by cases z)) ?_⟩
    have o' : VOk c.t (c.av n A0) c.H0 v H' r := by rw [EC.B_A0]; exact o
    have := o'.smut (o' := .dK kvs) (u := .dK ws) z
    rw [EC.B_A0] at this
    exact this
  · exact fun A n σ H ρ ⟨z, hn⟩ e' => ⟨(un e' z).1, L.bk _ _ _ _ _ hn (un e' z).2⟩
  · exact fun A n σ H ρ ⟨z, hn⟩ e' => ⟨(un e' z).1, L.ct _ _ _ _ _ hn (un e' z).2⟩
def dLockE (f : DF) : DF := fun ρ n Q => ∃ a kvs, n.2 a = some (.dK kvs) ∧ ∀ od ws, f ρ (n.1, sset n.2 a (.dF od ws kvs)) (lkQ a od ws kvs Q)
theorem pdLock {X : Cx} {e : Expr} {f : DF} (h : PE X e (tD f)) : PE X e (tD (dLockE f)) := (pe_lock h).imp fun σ H Q ⟨c, A, n, ρ, Q', E, ⟨a, kvs, es, hf⟩, k⟩ => by
  obtain ⟨⟨ws, h1, h2⟩, _⟩ := E.sat es
  refine ⟨a, .dK ws, h1, True.intro, fun od => ⟨c, A, _, ρ, _, E.smut es (o' := .dF od ws kvs) ⟨upd_same, h2⟩ (fun _ z => by cases z), hf od ws, fun v r n' H' ⟨z, hq⟩ f o => ?_⟩⟩
  have g0 : c.G n' (msk (hide r v (c.av n' A)) H') H' := f.2
  obtain ⟨⟨q1, q2⟩, _⟩ := g0.1.2 a _ z
  have f2 := f.smut z (o' := .dK kvs) (u := .dK ws) ⟨ws, upd_same, q2⟩ (fun _ z => by cases z)
  refine ⟨q1, k v r _ _ hq ⟨(Stay.ss es (o' := .dF od ws kvs) (u := .frz od (.dK ws)) (fun _ z => by cases z)).trans f2.1, f2.2⟩ ?_⟩
  have o2 := o.smut (o' := .dK kvs) (u := .dK ws) z
  have fr : ∀ {p : Addr}, Fresh (upd H a (.frz od (.dK ws))) p → Fresh H p := fun {p} hp x ex => by
    by_cases e : p = a
    · obtain ⟨ps, q⟩ := hp (.frz od (.dK ws)) (by rw [e]; exact upd_same)
      cases q
    · exact hp x (by rw [upd_ne e]; exact ex)
  cases r with
  | own ds =>
    obtain ⟨p, vs, h1, h2, h3, h4⟩ := o2
    exact ⟨p, vs, h1, ⟨fr h2.1, h2.2⟩, h3, h4⟩
  | dic ds =>
    obtain ⟨p, vs, h1, h2, h3, h4⟩ := o2
    exact ⟨p, vs, h1, ⟨fr h2.1, h2.2⟩, h3, h4⟩
  | _ => exact o2
/-- for k in d, d locked -/
def keysD (kvs : List (Key × PyData)) : List PyData := kvs.map fun kv => kD kv.1
def dInK (f : DF) : DIS := fun ρ n Q => f ρ n fun x n1 => ∃ a od ws kvs, x = .d (hnd a) ∧ n1.2 a = some (.dF od ws kvs) ∧ Q (keysD kvs) (fun n => n.2 a = some (.dF od ws kvs)) n1
theorem KRp.key {M : Hp} {ws : List (Key × V)} {kvs : List (Key × PyData)} (r : KRp M ws kvs) {i : Nat} {d : PyData} (h : (keysD kvs)[i]? = some d) : ∃ k v, ws[i]? = some (k, v) ∧ d = kD k := by
  induction r generalizing i with
  | nil => cases h
  | @cons k v d0 ws kvs _ _ ih =>
    cases i with
    | zero =>
      cases h
      exact ⟨k, v, rfl, rfl⟩
    | succ i => exact ih h
theorem piKeysH {X : Cx} {tg e : Expr} {f : DF} (h : PE X e (tD f)) : PI X tg e (iDS (dInK f)) := (pi_keys h).imp fun σ H R ⟨c, A, n, ρ, Q', E, hf, k⟩ => by
  refine ⟨c, A, n, ρ, _, E, hf, fun v r n1 H1 ⟨a, od, ws, kvs, ex, es, hq⟩ f1 o1 => ?_⟩
  subst ex
  cases o1
  have E1 := E.fr f1
  obtain ⟨⟨q1, q2⟩, _⟩ := E1.sat es
  refine ⟨a, od, rfl, .inl ⟨ws, q1, k _ _ _ n1 H1 [] hq f1.fr (fun p hp => by cases hp) fun A' n' σ' H' ρ' e' hI => ?_⟩⟩
  obtain ⟨⟨g1, g2⟩, _⟩ := e'.sat hI
  have kl : (keysD kvs).length = ws.length := by rw [keysD, List.length_map, g2.length]
  refine ⟨fun i d hd => ?_, ⟨g1, by rw [kl]; exact Nat.le_refl _⟩⟩
  obtain ⟨k0, v0, e1, rfl⟩ := g2.key hd
  refine ⟨⟨g1, (List.getElem?_eq_some_iff.mp e1).1⟩, fun x H2 ⟨eH, k1, v1, e2, ex⟩ => ?_⟩
  subst eH ex
  rw [e1] at e2
  cases e2
  exact ⟨fun _ _ h => h, kV_kD _⟩
/-- for x in xs, xs a list of the store -/
def dInH (f : DF) : DIS := fun ρ n Q => f ρ n fun x n1 => ∃ a ds, x = .d (hnd a) ∧ n1.2 a = some (.lst ds) ∧ Q ds (fun n => n.2 a = some (.lst ds)) n1
theorem piListH {X : Cx} {tg e : Expr} {f : DF} (h : PE X e (tD f)) : PI X tg e (iDS (dInH f)) := (pi_list h).imp fun σ H R ⟨c, A, n, ρ, Q', E, hf, k⟩ => by
  refine ⟨c, A, n, ρ, _, E, hf, fun v r n1 H1 ⟨a, ds, ex, es, hq⟩ f1 o1 => ?_⟩
  subst ex
  cases o1
  have E1 := E.fr f1
  obtain ⟨⟨xs, q1, q2⟩, _⟩ := E1.sat es
  refine ⟨a, rfl, ⟨xs, SqL.of q1⟩, k ds _ _ n1 H1 [] hq f1.fr (fun p hp => by cases hp) fun A' n' σ' H' ρ' e' hI => ?_⟩
  obtain ⟨⟨ys, g1, g2⟩, _⟩ := e'.sat hI
  have hl := g2.length
  have hs := SqL.of (K := X.K) g1
  refine ⟨fun i d hd => ?_, walk_list.stops H' hs |> fun z => by rw [← hl]; exact z⟩
  obtain ⟨y, e2, r2⟩ := g2.get hd
  exact ⟨walk_list.goes i H' (List.getElem?_eq_some_iff.mp e2).1 hs, fun x H2 yl => by
    obtain ⟨rfl, e3⟩ := walk_list.yields i H' x H2 (List.getElem?_eq_some_iff.mp e2).1 hs yl
    rw [e2] at e3
    cases e3
    exact ⟨fun _ _ h => h, r2⟩⟩
end

/-! ### k in d, k not in d: a dict of one's own -/
section
variable [Fam] [Tabz]
theorem din_le {neg : Bool} {i : Nat} {fe : DF} (σ : L2.St) (H : Hp) (Q : Bool → Hp → Prop) (q : tDT (dTest (dDIn neg i fe)) σ H Q) :
    tD fe σ H fun y H1 => tVar i σ H1 fun x H2 => ∃ a o, x = .ref a ∧ DGet H2 a y o ∧ ∃ b, V.bl (if neg then !o.isSome else o.isSome) = .bl b ∧ Q b H2 := by
  obtain ⟨c, A, n, ρ, Q', E, ⟨⟨kvs0, e0⟩, hf⟩, k⟩ := q
  refine ⟨c, A, n, ρ, _, E, hf, fun v x n1 H1 ⟨key, ex, kvs, e1, hq⟩ f1 o1 => ?_⟩
  subst ex
  have E1 := E.fr f1
  obtain ⟨a, ws, k1, k2, k3, k4⟩ := E1.slot i _ e1
  obtain rfl := kD_kV (show Rp _ v (kD key) from o1)
  have es : (valV ws key).isSome = (valD kvs key).isSome := by
    rcases k4.val key with ⟨q1, q2⟩ | ⟨u, d, q1, q2, rp⟩ <;> rw [q1, q2] <;> rfl
  obtain ⟨b, eb, hq⟩ := hq
  cases eb
  refine ⟨.ref a, k2, a, _, rfl, .inl ⟨ws, key, .inl k3, rfl, rfl⟩, _, rfl, ?_⟩
  rw [es]
  exact k _ n1 H1 hq f1
theorem ptCmpDIn {X : Cx} {e o : Expr} {pos : Pos} {i : Nat} {fe : DF} (hu : X.A.units + 1 < cLine) (ho : PE X o (tVar i)) (he : PE X e (tD fe)) (hm : behindInMarks .In o = false := by rfl) : PT X (.Compare e [.In] [o] pos) (tDT (dTest (dDIn false i fe))) := (pt_cmp (pc_din hu he ho) hm).imp fun σ H Q q => din_le σ H Q q
theorem ptCmpDNotIn {X : Cx} {e o : Expr} {pos : Pos} {i : Nat} {fe : DF} (hu : X.A.units + 1 < cLine) (ho : PE X o (tVar i)) (he : PE X e (tD fe)) (hm : behindInMarks .NotIn o = false := by rfl) : PT X (.Compare e [.NotIn] [o] pos) (tDT (dTest (dDIn true i fe))) := (pt_cmp (pc_dnotin hu he ho) hm).imp fun σ H Q q => din_le σ H Q q
end

/-! ### what stands in the store: dicts, lists, instances -/
section
variable [Bas] [Tabz]
local instance (priority := high) yoFam8 : Fam := famS
/-- k in d, k not in d -/
def dInHd (neg : Bool) (f g : DF) : DT := fun ρ n Q => f ρ n fun y n1 => g ρ n1 fun x n2 => ∃ k : Key, y = .d (kD k) ∧ ∃ a, x = .d (hnd a) ∧ ∃ kvs, dkv n2.2 a = some kvs ∧ Q (if neg then !(valD kvs k).isSome else (valD kvs k).isSome) n2
theorem inH_le {neg : Bool} {f g : DF} (σ : L2.St) (H : Hp) (Q : Bool → Hp → Prop) (q : tDT (dInHd neg f g) σ H Q) :
    tD f σ H fun y H1 => tD g σ H1 fun x H2 => ∃ a o, x = .ref a ∧ DGet H2 a y o ∧ ∃ b, V.bl (if neg then !o.isSome else o.isSome) = .bl b ∧ Q b H2 := by
  obtain ⟨c, A, n, ρ, Q', E, hf, k⟩ := q
  refine ⟨c, A, n, ρ, _, E, hf, fun v y n1 H1 hg f1 o1 => ⟨c, A, n1, ρ, _, E.fr f1, hg, fun u x n2 H2 ⟨key, ey, a, ex, kvs, es, hq⟩ f2 o2 => ?_⟩⟩
  subst ey ex
  cases o2
  obtain ⟨ws, h1, h2⟩ := ((E.fr f1).fr f2).dict es
  obtain rfl := kD_kV (show Rp _ v (kD key) from o1)
  have es : (valV ws key).isSome = (valD kvs key).isSome := by
    rcases h2.val key with ⟨q1, q2⟩ | ⟨u, d, q1, q2, rp⟩ <;> rw [q1, q2] <;> rfl
  refine ⟨a, _, rfl, .inl ⟨ws, key, h1, rfl, rfl⟩, _, rfl, ?_⟩
  rw [es]
  exact k _ n2 H2 hq (f1.trans f2).fr
theorem ptInH {X : Cx} {e o : Expr} {pos : Pos} {f g : DF} (hu : X.A.units + 1 < cLine) (he : PE X e (tD f)) (ho : PE X o (tD g)) (hm : behindInMarks .In o = false := by rfl) : PT X (.Compare e [.In] [o] pos) (tDT (dInHd false f g)) := (pt_cmp (pc_din hu he ho) hm).imp fun σ H Q q => inH_le σ H Q q
theorem ptNotInH {X : Cx} {e o : Expr} {pos : Pos} {f g : DF} (hu : X.A.units + 1 < cLine) (he : PE X e (tD f)) (ho : PE X o (tD g)) (hm : behindInMarks .NotIn o = false := by rfl) : PT X (.Compare e [.NotIn] [o] pos) (tDT (dInHd true f g)) := (pt_cmp (pc_dnotin hu he ho) hm).imp fun σ H Q q => inH_le σ H Q q
/-- d.get(k, x), d.get(k) -/
def dGet2H (fo f g : DF) : DF := fun ρ n Q => fo ρ n fun x n1 => ∃ a, x = .d (hnd a) ∧ (∃ kvs0, dkv n1.2 a = some kvs0) ∧ f ρ n1 fun y n2 => ∃ k : Key, y = .d (kD k) ∧ g ρ n2 fun z n3 => ∃ kvs, dkv n3.2 a = some kvs ∧ ∃ w, z.dat = some w ∧ Q (.d ((valD kvs k).getD w)) n3
theorem pdGet2H {X : Cx} {o e f : Expr} {apos cpos : Pos} {fo fe ff : DF} (hu : X.A.units + 1 < cLine) (ho : PE X o (tD fo)) (he : PE X e (tD fe)) (hf : PE X f (tD ff)) (m : M2 X o "get" apos e f cpos) : PE X (.Call (.Attribute o "get" apos) [e, f] [] cpos) (tD (dGet2H fo fe ff)) := (pe_dget2 hu ho he hf m).imp fun σ H Q ⟨c, A, n, ρ, Q', E, hf, k⟩ => by
  refine ⟨c, A, n, ρ, _, E, hf, fun v x n1 H1 ⟨a, ex, ⟨kvs0, e0⟩, hg⟩ f1 o1 => ?_⟩
  subst ex
  cases o1
  have E1 := E.fr f1
  obtain ⟨ws0, w1, w2⟩ := E1.dict e0
  refine ⟨a, rfl, .inl ⟨ws0, w1⟩, c, A, n1, ρ, _, E1, hg, fun v y n2 H2 ⟨key, ey, hz⟩ f2 o2 => ⟨c, A, n2, ρ, _, E1.fr f2, hz, fun w z n3 H3 ⟨kvs, e1, u, ez, hq⟩ f3 o3 => ?_⟩⟩
  subst ey
  have E3 := (E1.fr f2).fr f3
  obtain ⟨ws, h1, h2⟩ := E3.dict e1
  obtain rfl := kD_kV (show Rp _ v (kD key) from o2)
  refine ⟨valV ws key, .inl ⟨ws, key, h1, rfl, rfl⟩, ?_⟩
  rcases h2.val key with ⟨q1, q2⟩ | ⟨u, d, q1, q2, rp⟩
  · rw [q2] at hq
    rw [q1]
    exact k w _ n3 H3 hq ((f1.trans f2).trans f3.fr) (o3.dat (E1.fr f2) ez)
  · rw [q2] at hq
    rw [q1]
    exact k u _ n3 H3 hq ((f1.trans f2).trans f3.fr) rp
def dGet1H (fo f : DF) : DF := fun ρ n Q => fo ρ n fun x n1 => ∃ a, x = .d (hnd a) ∧ (∃ kvs0, dkv n1.2 a = some kvs0) ∧ f ρ n1 fun y n2 => ∃ k : Key, y = .d (kD k) ∧ ∃ kvs, dkv n2.2 a = some kvs ∧ Q (.d ((valD kvs k).getD .none)) n2
theorem pdGet1H {X : Cx} {o e : Expr} {apos cpos : Pos} {fo fe : DF} (hu : X.A.units + 1 < cLine) (ho : PE X o (tD fo)) (he : PE X e (tD fe)) (m : M1 X o "get" apos e cpos) : PE X (.Call (.Attribute o "get" apos) [e] [] cpos) (tD (dGet1H fo fe)) := (pe_dget1 hu ho he m).imp fun σ H Q ⟨c, A, n, ρ, Q', E, hf, k⟩ => by
  refine ⟨c, A, n, ρ, _, E, hf, fun v x n1 H1 ⟨a, ex, ⟨kvs0, e0⟩, hg⟩ f1 o1 => ?_⟩
  subst ex
  cases o1
  have E1 := E.fr f1
  obtain ⟨ws0, w1, w2⟩ := E1.dict e0
  refine ⟨a, rfl, .inl ⟨ws0, w1⟩, c, A, n1, ρ, _, E1, hg, fun v y n2 H2 ⟨key, ey, kvs, e1, hq⟩ f2 o2 => ?_⟩
  subst ey
  have E2 := E1.fr f2
  obtain ⟨ws, h1, h2⟩ := E2.dict e1
  obtain rfl := kD_kV (show Rp _ v (kD key) from o2)
  refine ⟨valV ws key, .inl ⟨ws, key, h1, rfl, rfl⟩, ?_⟩
  rcases h2.val key with ⟨q1, q2⟩ | ⟨u, d, q1, q2, rp⟩
  · rw [q2] at hq
    rw [q1]
    exact k .non _ n2 H2 hq (f1.trans f2.fr) Rp.non
  · rw [q2] at hq
    rw [q1]
    exact k u _ n2 H2 hq (f1.trans f2.fr) rp
/-- len(d), len(xs) -/
def dLenH (f : DF) : DF := fun ρ n Q => f ρ n fun x n1 => ∃ a, x = .d (hnd a) ∧ ∃ o, n1.2 a = some o ∧ ∃ l : Nat, (match o with | .lst ds => some ds.length | .dK kvs => some kvs.length | _ => none) = some l ∧ Q (.d (.int (l : Nat))) n1
abbrev rLenA (K : PySem.W.Frag) : List V → Hp → VK → Prop := fun xs H Q => (∃ a kvs, xs = [V.ref a] ∧ H a = some (.dK kvs) ∧ Q (.int kvs.length) H) ∨ ∃ p ys, xs = [V.ref p] ∧ (SqL K H p ys ∨ SqT K H p ys) ∧ Q (.int (ys.length : Nat)) H
theorem call_lenA {X : Cx} : CallR X (.builtin "len") (rLenA X.K) := callR_or call_lenD call_len_seq
theorem pdLenH {X : Cx} {p pos : Pos} {e : Expr} {f : DF} (h : PE X (.Call (.Name "len" p) [e] [] pos) (tCB (rLenA X.K) (tCons (tD f) tNil))) : PE X (.Call (.Name "len" p) [e] [] pos) (tD (dLenH f)) := h.imp fun σ H Q ⟨c, A, n, ρ, Q', E, hf, k⟩ => by
  refine ⟨c, A, n, ρ, _, E, hf, fun v x n1 H1 ⟨a, ex, o, es, l, el, hq⟩ f1 o1 => ?_⟩
  subst ex
  cases o1
  obtain ⟨r, _⟩ := (E.fr f1).sat es
  cases o with
  | lst ds =>
    cases el
    obtain ⟨vs, h1, h2⟩ := r
    refine .inr ⟨a, vs, rfl, .inl (SqL.of h1), ?_⟩
    rw [h2.length]
    exact k _ _ n1 H1 hq f1.fr (Rp.int _)
  | dK kvs =>
    cases el
    obtain ⟨vs, h1, h2⟩ := r
    refine .inl ⟨a, vs, rfl, h1, ?_⟩
    rw [h2.length]
    exact k _ _ n1 H1 hq f1.fr (Rp.int _)
  | dF od ws kvs => cases el
  | ins C fs => cases el
/-- len(d), d one's own -/
def dLenD (i : Nat) : DF := fun ρ n Q => ∃ kvs, ρ[i]? = some (.dic kvs) ∧ Q (.d (.int (kvs.length : Nat))) n
theorem pdLenD {X : Cx} {p pos : Pos} {e : Expr} {i : Nat} (h : PE X (.Call (.Name "len" p) [e] [] pos) (tCB (fun xs H Q => ∃ a kvs, xs = [V.ref a] ∧ H a = some (.dK kvs) ∧ Q (.int kvs.length) H) (tCons (tVar i) tNil))) : PE X (.Call (.Name "len" p) [e] [] pos) (tD (dLenD i)) := h.imp fun σ H Q ⟨c, A, n, ρ, Q', E, ⟨kvs, ex, hq⟩, k⟩ => by
  obtain ⟨a, ws, h1, h2, h3, h4⟩ := E.slot i _ ex
  refine ⟨_, h2, a, ws, rfl, h3, ?_⟩
  rw [h4.length]
  exact k _ _ n H hq (.refl E.g) (Rp.int _)
/-- xs[i], xs a list of the store -/
def dIxH (f g : DF) : DF := fun ρ n Q => f ρ n fun x n1 => g ρ n1 fun y n2 => ∃ a, x = .d (hnd a) ∧ ∃ i, y = .d (.int i) ∧ ∃ ds, n2.2 a = some (.lst ds) ∧ ∃ d, atI ds i = some d ∧ Q (.d d) n2
theorem pdIxH {X : Cx} {o e : Expr} {pos : Pos} {f g : DF} (h : PE X (.Subscript o e pos) (fun σ H Q => tD f σ H fun x H1 => tD g σ H1 fun y H2 => rIxL X.K x y H2 Q)) : PE X (.Subscript o e pos) (tD (dIxH f g)) := h.imp fun σ H Q ⟨c, A, n, ρ, Q', E, hf, k⟩ => by
  refine ⟨c, A, n, ρ, _, E, hf, fun v x n1 H1 hg f1 o1 => ⟨c, A, n1, ρ, _, E.fr f1, hg, fun w y n2 H2 ⟨a, ex, i, ey, ds, es, d, ed, hq⟩ f2 o2 => ?_⟩⟩
  subst ex ey
  cases o1
  cases o2
  obtain ⟨⟨vs, h1, h2⟩, _⟩ := ((E.fr f1).fr f2).sat es
  obtain ⟨u, q1, q2⟩ := h2.atI ed
  exact ⟨a, vs, i, u, rfl, rfl, SqL.of h1, q1, k u _ n2 H2 hq (f1.trans f2.fr) q2⟩
/-- xs[i] = v -/
def dIxPH (f g fv : DF) : DS := fun E ρ n => fv ρ n fun y n1 => f ρ n1 fun x n2 => g ρ n2 fun j n3 => ∃ a, x = .d (hnd a) ∧ ∃ i, j = .d (.int i) ∧ ∃ z, y.dat = some z ∧ ∃ ds, n3.2 a = some (.lst ds) ∧ ∃ k, ixN ds.length i = some k ∧ E.nx ρ (n3.1, sset n3.2 a (.lst (ds.set k z)))
theorem psIxPH {X : Cx} {o e value : Expr} {pos pos' : Pos} {f g fv : DF} (ho : PE X o (tD f)) (he : PE X e (tD g)) (hv : PE X value (tD fv)) (h : PS X (.Assign [.Subscript o e pos'] value pos) (fun D σ H => tD fv σ H fun v H1 => tD f σ H1 fun x H2 => tD g σ H2 fun j H3 => rSetL x j v H3 fun H4 => D.nx σ H4)) :
    PS X (.Assign [.Subscript o e pos'] value pos) (sD (dIxPH f g fv)) := h.imp fun D σ H ⟨c, A, n, ρ, E, e, hf, L⟩ => by
  refine ⟨c, A, n, ρ, _, e, hf, fun v y n1 H1 hg f1 o1 => ⟨c, A, n1, ρ, _, e.fr f1, hg, fun w x n2 H2 hg2 f2 o2 => ⟨c, A, n2, ρ, _, (e.fr f1).fr f2, hg2, fun kv j n3 H3 ⟨a, ex, i, ej, z, ez, ds, es, k, ek, hn⟩ f3 o3 => ?_⟩⟩⟩
  subst ex ej
  cases o2
  cases o3
  have E3 := ((e.fr f1).fr f2).fr f3
  obtain ⟨⟨vs, h1, h2⟩, _⟩ := E3.sat es
  have rv : Rp (msk (c.av n3 A) H3) v z := ((o1.dat e ez).ex f2.msk).ex f3.msk
  exact ⟨a, vs, i, k, rfl, rfl, h1, by rw [h2.length]; exact ek, L.nx _ _ _ _ _ hn (E3.smut es ⟨_, upd_same, RpA.set rv k h2⟩ (fun _ z => by cases z))⟩
/-- xs.pop(i) -/
def dPopH (f g : DF) : DF := fun ρ n Q => f ρ n fun x n1 => ∃ a ds0, x = .d (hnd a) ∧ n1.2 a = some (.lst ds0) ∧ g ρ n1 fun y n2 => ∃ i k d ds, y = .d (.int i) ∧ n2.2 a = some (.lst ds) ∧ -(2 ^ 63) ≤ i ∧ i < 2 ^ 63 ∧ seqIndex? i ds.length = some k ∧ ds[k]? = some d ∧ Q (.d d) (n2.1, sset n2.2 a (.lst (ds.eraseIdx k)))
theorem RpA.erase {M : Hp} : ∀ {vs : List V} {ds : List PyData} (k : Nat), RpA M vs ds → RpA M (vs.eraseIdx k) (ds.eraseIdx k)
  | _, _, _, .nil => .nil
  | _, _, 0, .cons _ t => t
  | _, _, k + 1, .cons r t => .cons r (RpA.erase k t)
theorem FrV.step {c : EC} {A : Nat → Option Addr} {n n1 n2 : Fam.S} {σ : L2.St} {H H1 H2 : Hp} {ρ : List DV} {v w : V} {r : DV} {d : PyData} (f : FrV c A n n1 H H1 v r) (s : Stay (c.P n1) (c.P n2) H1 H2) (E : EnvA c A n2 σ H2 ρ) : FrV c A n n2 H H2 w (.d d) := ⟨f.1.trans s, E.g⟩
theorem pdPopH {X : Cx} {e : Expr} {f g : DF} (h : PE X e (tBM X.K "list" rPopAt (tD f) (tCons (tD g) tNil))) : PE X e (tD (dPopH f g)) := h.imp fun σ H Q ⟨c, A, n, ρ, Q', E, hf, k⟩ => by
  refine ⟨c, A, n, ρ, _, E, hf, fun v x n1 H1 ⟨a, ds0, ex, e0, hg⟩ f1 o1 => ?_⟩
  subst ex
  cases o1
  have E1 := E.fr f1
  obtain ⟨⟨vs0, w1, _⟩, _⟩ := E1.sat e0
  refine ⟨.inl ⟨rfl, _, SqL.of w1⟩, c, A, n1, ρ, _, E1, hg, fun w y n2 H2 ⟨i, j, d, ds, ey, es, l1, l2, ej, ed, hq⟩ f2 o2 => ?_⟩
  subst ey
  cases o2
  have E2 := E1.fr f2
  obtain ⟨⟨vs, h1, h2⟩, _⟩ := E2.sat es
  obtain ⟨u, q1, q2⟩ := h2.get ed
  have E3 := E2.smut es (o' := .lst (ds.eraseIdx j)) (u := .lst (vs.eraseIdx j)) ⟨_, upd_same, h2.erase j⟩ (fun _ z => by cases z)
  have st := Stay.ss es (o' := .lst (ds.eraseIdx j)) (u := .lst (vs.eraseIdx j)) (H := H2) (c := c) (fun _ z => by cases z)
  refine ⟨a, vs, i, j, u, rfl, rfl, h1, l1, l2, by rw [h2.length]; exact ej, q1, k u _ _ _ hq ((f1.trans f2).step st E3) ?_⟩
  have av := av_ss (A := A) (c := c) (o' := SO.lst (ds.eraseIdx j)) es
  show Rp (msk (c.av (n2.1, sset n2.2 a (.lst (ds.eraseIdx j))) A) _) u d
  rw [av, msk_av (.inl (.inr (.inr (by rw [es]; exact fun z => by cases z))))]
  exact q2
/-! ### instances -/
theorem SRp.look {M : Hp} {ws : List (Str × V)} {fs : List (Str × PyData)} (r : SRp M ws fs) (f : Str) : (ws.lookup f = none ∧ fs.lookup f = none) ∨ ∃ v d, ws.lookup f = some v ∧ fs.lookup f = some d ∧ Rp M v d := by
  induction r with
  | nil => exact .inl ⟨rfl, rfl⟩
  | @cons g v d ws fs h _ ih =>
    rw [List.lookup_cons, List.lookup_cons]
    by_cases q : f = g
    · rw [beq_iff_eq.mpr q]
      exact .inr ⟨v, d, rfl, rfl, h⟩
    · rw [beq_eq_false_iff_ne.mpr q]
      exact ih
theorem SRp.length {M : Hp} {ws : List (Str × V)} {fs : List (Str × PyData)} (r : SRp M ws fs) : ws.length = fs.length := by
  induction r with
  | nil => rfl
  | cons _ _ ih => exact congrArg Nat.succ ih
def putS (f : Str) (d : PyData) : List (Str × PyData) → List (Str × PyData)
  | [] => [(f, d)]
  | (g, x) :: r => if g = f then (g, d) :: r else (g, x) :: putS f d r
theorem SRp.put {M : Hp} {ws : List (Str × V)} {fs : List (Str × PyData)} (r : SRp M ws fs) {f : Str} {v : V} {d : PyData} (h : Rp M v d) : SRp M (putF f v ws) (putS f d fs) := by
  induction r with
  | nil => exact .cons h .nil
  | @cons g x y ws fs h0 t ih =>
    unfold putF putS
    by_cases q : g = f
    · rw [if_pos q, if_pos q]
      exact .cons h t
    · rw [if_neg q, if_neg q]
      exact .cons h0 ih
/-- the facts of a class: plain, and none of these names is an attribute of it -/
structure InsC (K : PySem.W.Frag) (C : Addr) (xs : List Str) : Prop where
  cl : Cls K C
  no : ∀ x ∈ xs, NoAttr K C x
/-- .. and the class is made by its name -/
structure ClsI (K : PySem.W.Frag) (mg : Str → Option Value) (x : Str) (C : Addr) (xs : List Str) : Prop extends InsC K C xs where
  makes : PySem.W.makesIn K C = true
  kp : PySem.W.keepIn K (.ref C) = true
  mgc : mg x = some (.ref C)
/-- a method stands, as a def's contract does -/
def MCal (P : Program) (w : World) (K : PySem.W.Frag) (mg : Str → Option Value) (base : Heap) (C : Addr) (k : Nat) (x : Str) (ps : List Str) (sp : Sp) : Prop := ∃ f fd, FnOk P w K mg base CX0 k f fd ps sp ∧ Meth K C x f ∧ True ∧ Binds K fd ps []
theorem pdFld {X : Cx} {e : Expr} {x : Str} {pos : Pos} {f : DF} {C : Addr} {xs : List Str} (T : InsC X.K C xs) (hx : x ∈ xs) (he : PE X e (tD f)) (hb : attributeBase e x X.env (eval e X.env) = eval e X.env := by rfl) :
    PE X (.Attribute e x pos) (tD fun ρ n Q => f ρ n fun r n1 => ∃ a, r = .d (hnd a) ∧ ∃ fs, n1.2 a = some (.ins C fs) ∧ ∃ d, fs.lookup x = some d ∧ Q (.d d) n1) := (pe_fld he hb).imp fun σ H Q ⟨c, A, n, ρ, Q', E, hf, k⟩ => by
  refine ⟨c, A, n, ρ, _, E, hf, fun v r n1 H1 ⟨a, ex, fs, es, d, ed, hq⟩ f1 o1 => ?_⟩
  subst ex
  cases o1
  obtain ⟨⟨dx, ws, h1, h2⟩, _⟩ := (E.fr f1).sat es
  rcases h2.look x with ⟨_, q2⟩ | ⟨u, d', q1, q2, rp⟩
  · rw [q2] at ed
    cases ed
  · rw [q2] at ed
    cases ed
    exact ⟨a, C, dx, ws, u, rfl, h1, T.cl, T.no x hx, q1, k u _ n1 H1 hq f1.fr rp⟩
/-- o.f = e -/
theorem psFldS {X : Cx} {o value : Expr} {x : Str} {pos pos' : Pos} {f g : DF} {C : Addr} {xs : List Str} (T : InsC X.K C xs) (hx : x ∈ xs) (ho : PE X o (tD f)) (hv : PE X value (tD g)) (hs : swapsWith value (some (.Attribute o x pos')) pos.line X.env = pure false := by rfl) :
    PS X (.Assign [.Attribute o x pos'] value pos) (sD fun E ρ n => g ρ n fun y n1 => f ρ n1 fun r n2 => ∃ a, r = .d (hnd a) ∧ ∃ fs, n2.2 a = some (.ins C fs) ∧ fs.length < 1000 ∧ ∃ d, y.dat = some d ∧ E.nx ρ (n2.1, sset n2.2 a (.ins C (putS x d fs)))) := (ps_fld ho hv hs).imp fun D σ H ⟨c, A, n, ρ, E, e, hf, L⟩ => by
  refine ⟨c, A, n, ρ, _, e, hf, fun v y n1 H1 hg f1 o1 => ⟨c, A, n1, ρ, _, e.fr f1, hg, fun w r n2 H2 ⟨a, ex, fs, es, hl, d, ed, hn⟩ f2 o2 => ?_⟩⟩
  subst ex
  cases o2
  have E2 := (e.fr f1).fr f2
  obtain ⟨⟨dx, ws, h1, h2⟩, _⟩ := E2.sat es
  have rv : Rp (msk (c.av n2 A) H2) v d := (o1.dat e ed).ex f2.msk
  exact ⟨a, C, dx, ws, rfl, h1, T.cl, T.no x hx, by rw [h2.length]; exact hl, L.nx _ _ _ _ _ hn (E2.smut es ⟨dx, _, upd_same, h2.put rv⟩ (fun _ z => by cases z))⟩
/-- a new thing stands in the store -/
theorem EnvA.born {c : EC} {A : Nat → Option Addr} {n : Fam.S} {σ : L2.St} {H : Hp} {ρ : List DV} (E : EnvA c A n σ H ρ) {x : Addr} {o : SO} {u : HO} (hx : H x = none) (hr : SReal (msk (c.av n A) H) (upd H x u) x o) : n.2 x = none ∧ Stay (c.P n) (c.P (n.1, sset n.2 x o)) H (upd H x u) ∧ EnvA c A (n.1, sset n.2 x o) σ (upd H x u) ρ := by
  have nx : n.2 x = none := by
    cases e : n.2 x with
    | none => rfl
    | some o =>
      obtain ⟨w, h, _⟩ := (E.sat e).1.at
      rw [hx] at h
      cases h
  have nq : ¬ Bas.Pq c.u c.t x := fun p => by
    obtain ⟨xs, h⟩ := Bas.ty E.g.1.1 p
    rw [hx] at h
    cases h
  have nA : ∀ i, A i ≠ some x := fun i e => by
    obtain ⟨⟨o, h, _⟩, _⟩ := E.has i x e
    rw [hx] at h
    cases h
  have sm : ∀ b v, H b = some v → upd H x u b = some v := same_new hx
  have pp : ∀ {b : Addr}, b ≠ x → (c.P (n.1, sset n.2 x o) b ↔ c.P n b) := fun {b} nb => by
    show Bas.Pq _ _ b ∨ sset n.2 x o b ≠ none ↔ _
    rw [sset_ne nb]
    exact Iff.rfl
  have st : Stay (c.P n) (c.P (n.1, sset n.2 x o)) H (upd H x u) := fun b v q e => by
    have nb : b ≠ x := ne_of_none e hx
    exact ⟨fun p => ⟨sm b v e, fun z => p ((pp nb).mp z)⟩, v, sm b v e, q⟩
  have mk : msk (c.av (n.1, sset n.2 x o) A) (upd H x u) = msk (c.av n A) H := by
    funext b
    by_cases e : b = x
    · subst e
      have h1 : msk (c.av n A) H b = none := by rw [msk_out (E.apart (.of hx)), hx]
      rw [h1]
      unfold msk
      rw [if_pos]
      exact .inl (.inr (.inr (by show sset n.2 b o b ≠ none; rw [sset_eq]; exact fun z => by cases z)))
    · have h1 : c.av (n.1, sset n.2 x o) A b ↔ c.av n A b := ⟨fun z => z.imp (fun z => z.imp id (pp e).mp) id, fun z => z.imp (fun z => z.imp id (pp e).mpr) id⟩
      unfold msk
      rw [upd_ne e]
      by_cases z : c.av n A b
      · rw [if_pos z, if_pos (h1.mpr z)]
      · rw [if_neg z, if_neg fun q => z (h1.mp q)]
  refine ⟨nx, st, E.keep.trans st, ⟨⟨Bas.mv E.g.1.1 fun b v _ e => sm b v e, fun b v e => ?_⟩, Tabs_mvE E.g.2 fun b v _ e => sm b v e⟩, E.new, fun i a e => ?_, E.inj, fun i y e => ?_, E.len, fun p hp => by rw [mk]; exact E.pin p hp, E.fin, E.mine⟩
  · have e' : sset n.2 x o b = some v := e
    rw [mk]
    by_cases z : b = x
    · subst z
      rw [sset_eq] at e'
      cases e'
      exact ⟨hr, nq⟩
    · rw [sset_ne z] at e'
      obtain ⟨r1, r2⟩ := E.g.1.2 b v e'
      exact ⟨r1.ex (fun _ _ _ h => h) fun _ h => sm b _ h, r2⟩
  · obtain ⟨⟨o1, h1, h2⟩, h3⟩ := E.has i a e
    exact ⟨⟨o1, sm a o1 h1, h2⟩, fun z => h3 ((pp fun q => nA i (by rw [e, q])).mp z)⟩
  · rw [mk]
    exact (E.slot i y e).ex (fun _ _ _ h => h) fun b v _ _ h => sm b v h
/-- o.m(..) -/
def dMeth (C : Addr) (x : Str) (m : DM) (f : DF) (g : DA) : DF := fun ρ n Q => f ρ n fun r n1 => ∃ a, r = .d (hnd a) ∧ ∃ fs, n1.2 a = some (.ins C fs) ∧ fs.lookup x = none ∧ g ρ n1 fun rs n2 => m (.d (hnd a) :: rs) n2 Q
theorem meth_le {C : Addr} {x : Str} {m : DM} {f : DF} {g : DA} (hpl : ∀ rs n Q, m rs n Q → plainR rs) (E0 : XK) (σ : L2.St) (H : Hp) (Q : VK) (q : tD (dMeth C x m f g) σ H Q) : tMeth C x (spD m) [] E0 (tD f) (tDA g) σ H Q := by
  obtain ⟨c, A, n, ρ, Q', E, hf, k⟩ := q
  refine ⟨c, A, n, ρ, _, E, hf, fun v r n1 H1 ⟨a, ex, fs, es, el, hg⟩ f1 o1 => ?_⟩
  subst ex
  cases o1
  have E1 := E.fr f1
  obtain ⟨⟨dx, ws, h1, h2⟩, _⟩ := E1.sat es
  refine ⟨a, dx, ws, rfl, h1, ?_, c, A, n1, ρ, _, E1, hg, fun vs rs n2 H2 hm f2 o2 => ?_⟩
  · rcases h2.look x with ⟨q1, _⟩ | ⟨_, _, _, q2, _⟩
    · exact q1
    · rw [el] at q2
      cases q2
  have E2 := E1.fr f2
  show spD m (.ref a :: (vs ++ [])) H2 Q E0
  rw [List.append_nil]
  refine ⟨E2.ec, n2, .d (hnd a) :: rs, Q', rfl, rfl, by rw [E2.ec_B]; exact E2.g, rfl, ?_, hm, fun v r n' H' hq f3 o3 => ?_⟩
  · rw [E2.ec_B]
    exact .cons (Rp.hnd a) rfl (o2.now (m := n2) E1 fun r hr => hpl _ _ _ hm r (List.mem_cons_of_mem _ hr))
  · rw [E2.ec_B] at o3
    exact k v r n' H' hq ((f1.trans f2).trans (E2.ec_fr f3)) (VOk.mono E (f1.trans f2) o3)
theorem pdMeth {X : Cx} {CX : CXT} {k : Nat} {C f : Addr} {fd : FuncData} {ps : List Str} {m : DM} {x : Str} {apos pos : Pos} {o e : Expr} {es : List Expr} {fo : DF} {g : DA} {E0 : XK} {pl : Sem Bool} (hpl : ∀ rs n Q, m rs n Q → plainR rs) (cl : Cls X.K C) (hm : Meth X.K C x f) (F : FnOk X.prog X.w X.K X.mg X.base CX k f fd ps (spD m)) (hr : Room k X.A) (hb : Binds X.K fd ps []) (hx : Passes CX X E0) (ho : PE X o (tD fo))
    (ha : PA X (e :: es) (tDA g)) (hst : starEach (e :: es) X.env = (false, eval e X.env) :: starEach es X.env := by rfl) (hpl2 : (backTo pos (starEach es X.env)).any (·.1) = false := by rfl)
    (ht : eval (.Call (.Attribute o x apos) (e :: es) [] pos) X.env = (do
      let ov ← eval o X.env
      standAt apos.atName
      let (f, first) ← holding [ov] (getMethod ov x pl)
      callWith pos f first (backTo pos (starEach (e :: es) X.env)) (backToKw pos (keywordEach [] X.env))) := by rfl) :
    PE X (.Call (.Attribute o x apos) (e :: es) [] pos) (tD (dMeth C x m fo g)) := (pe_meth (pl := pl) ho cl hm F hr hb .nil hx ha hst hpl2 ht).imp (meth_le hpl E0)
theorem pdMeth0 {X : Cx} {CX : CXT} {k : Nat} {C f : Addr} {fd : FuncData} {ps : List Str} {m : DM} {x : Str} {apos pos : Pos} {o : Expr} {fo : DF} {E0 : XK} {pl : Sem Bool} (hpl : ∀ rs n Q, m rs n Q → plainR rs) (cl : Cls X.K C) (hm : Meth X.K C x f) (F : FnOk X.prog X.w X.K X.mg X.base CX k f fd ps (spD m)) (hr : Room k X.A) (hb : Binds X.K fd ps []) (hx : Passes CX X E0) (ho : PE X o (tD fo))
    (ht : eval (.Call (.Attribute o x apos) [] [] pos) X.env = (do
      let ov ← eval o X.env
      standAt apos.atName
      let (f, first) ← holding [ov] (getMethod ov x pl)
      callWith pos f first (backTo pos (starEach [] X.env)) (backToKw pos (keywordEach [] X.env))) := by rfl) :
    PE X (.Call (.Attribute o x apos) [] [] pos) (tD (dMeth C x m fo dNil)) := (pe_meth0 (pl := pl) ho cl hm F hr hb .nil hx ht).imp fun σ H Q q => by
  obtain ⟨c, A, n, ρ, Q', E, hf, k⟩ := q
  refine ⟨c, A, n, ρ, _, E, hf, fun v r n1 H1 ⟨a, ex, fs, es, el, hm⟩ f1 o1 => ?_⟩
  subst ex
  cases o1
  have E1 := E.fr f1
  obtain ⟨⟨dx, ws, h1, h2⟩, _⟩ := E1.sat es
  refine ⟨a, dx, ws, rfl, h1, ?_, ?_⟩
  · rcases h2.look x with ⟨q1, _⟩ | ⟨_, _, _, q2, _⟩
    · exact q1
    · rw [el] at q2
      cases q2
  refine ⟨E1.ec, n1, [.d (hnd a)], Q', rfl, rfl, by rw [E1.ec_B]; exact E1.g, rfl, ?_, hm, fun v r n' H' hq f3 o3 => ?_⟩
  · rw [E1.ec_B]
    exact .cons (Rp.hnd a) rfl .nil
  · rw [E1.ec_B] at o3
    exact k v r n' H' hq (f1.trans (E1.ec_fr f3)) (VOk.mono E f1 o3)
/-- C() -/
def dMake0 (C : Addr) (m : DM) : DF := fun _ n Q => ∀ a, n.2 a = none → m [.d (hnd a)] (n.1, sset n.2 a (.ins C [])) fun r n2 => r = .d .none ∧ Q (.d (hnd a)) n2
theorem pdMake0 {X : Cx} {CX : CXT} {k : Nat} {C f : Addr} {fd : FuncData} {ps : List Str} {m : DM} {x : Str} {p pos : Pos} {E0 : XK} (M : Mk X.K C f) (F : FnOk X.prog X.w X.K X.mg X.base CX k f fd ps (spD m)) (hr : Room (k + 1) X.A) (hg : Gl X x) (hm : X.mg x = some (.ref C)) (hb : Binds X.K fd ps []) (hx : Passes CX X E0) (hdb : (x == ("__debug__" : Str)) = false := by decide) :
    PE X (.Call (.Name x p) [] [] pos) (tD (dMake0 C m)) := (pe_make0 M F hr hg hm hb .nil hx hdb).imp fun σ H Q q => by
  obtain ⟨c, A, n, ρ, Q', E, hf, k⟩ := q
  intro x dx nx ndx nex
  have f1 : Fr c A n n H (upd H dx (.own x)) := Fr.new E.g ndx
  have E1 := E.fr f1
  have nx1 : upd H dx (.own x) x = none := by rw [upd_ne nex.symm]; exact nx
  obtain ⟨n0, st, E2⟩ := E1.born (o := .ins C []) (u := .ins C dx []) nx1 ⟨dx, [], upd_same, .nil⟩
  show spD m [.ref x] _ _ _
  refine ⟨E2.ec, _, [.d (hnd x)], _, rfl, rfl, by rw [E2.ec_B]; exact E2.g, rfl, by rw [E2.ec_B]; exact .cons (Rp.hnd x) rfl .nil, hf x n0, fun v r n' H' ⟨er, hq⟩ f3 o3 => ?_⟩
  subst er
  cases o3
  have f4 := E2.ec_fr f3
  exact ⟨rfl, k _ _ n' H' hq ⟨(f1.1.trans st).trans f4.1, f4.2⟩ (Rp.hnd x)⟩
end

/-! ### texts: s[i], s[a:b], len(s), s + t -/
section
variable [Fam] [Tabz]
def opIxS : PyData → PyData → Option DV
  | .str z, .int i => if z.length ≤ 200000 then (atI z.cps.toList i).map fun c => .d (.str ⟨#[c]⟩) else none
  | _, _ => none
theorem r2IxS : R2D rIxS opIxS := by
  intro t B H v w a b z Q hB ra rb e k
  cases ra <;> cases rb <;> simp only [opIxS, reduceCtorEq] at e
  rename_i s i
  split at e
  · rename_i hz
    cases q : atI s.cps.toList i with
    | none =>
      rw [q] at e
      cases e
    | some c =>
      rw [q] at e
      cases e
      exact ⟨s, i, c, rfl, rfl, Nat.le_trans hz (by decide), q, k _ H (fun _ _ h => h) (Rp.str _)⟩
  · cases e
def opSlS : PyData → Option Int → Option Int → Option DV
  | .str z, lo, hi => if z.length ≤ 200000 then some (.d (.str (cutS z lo hi))) else none
  | _, _, _ => none
theorem slSD : SlD rSlS opSlS := by
  intro t B H v lo hi a z Q hB ra e k
  cases ra <;> simp only [opSlS, reduceCtorEq] at e
  split at e
  · rename_i hz
    cases e
    exact ⟨_, rfl, Nat.le_trans hz (by decide), k _ H (fun _ _ h => h) (Rp.str _)⟩
  · cases e
def bLenS : List PyData → Option DV
  | [.str z] => if z.length ≤ 200000 then some (.d (.int (z.length : Nat))) else none
  | _ => none
theorem rsLenS : RsD (fun xs H Q => ∃ z, xs = [V.str z] ∧ z.length ≤ sizeLine ∧ Q (.int z.length) H) bLenS := by
  intro t B H vs as z Q hB r e k
  cases r with
  | nil => cases e
  | cons r1 r => cases r with
    | nil =>
      cases r1 <;> simp only [bLenS, reduceCtorEq] at e
      split at e
      · rename_i hz
        cases e
        exact ⟨_, rfl, Nat.le_trans hz (by decide), k _ H (fun _ _ h => h) (Rp.int _)⟩
      · cases e
    | cons _ _ => cases r1 <;> cases e
end

/-! ### text + text -/
def opAddS : PyData → PyData → Option DV
  | .str a, .str b => if a.length + b.length ≤ 200000 then some (.d (.str (a ++ b))) else none
  | _, _ => none
def rAddT : R2 := fun x y H Q => ∃ i j, x = .str i ∧ y = .str j ∧ i.length + j.length ≤ sizeLine ∧ Q (.str (i ++ j)) H
theorem r2AddS : R2D rAddT opAddS := by
  intro t B H v w a b z Q hB ra rb e k
  cases ra <;> cases rb <;> simp only [opAddS, reduceCtorEq] at e
  split at e
  · rename_i hz
    cases e
    exact ⟨_, _, rfl, rfl, Nat.le_trans hz (by decide), k _ H (fun _ _ h => h) (Rp.str _)⟩
  · cases e

/-! ### data readings: xs[i] += e, xs[i] = e, xs a list of one's own -/
def rGetL : V → V → Hp → VK → Prop := fun o i H Q => ∃ p xs k v, o = .ref p ∧ i = .int k ∧ H p = some (.lst xs) ∧ 0 ≤ k ∧ k < 2 ^ 63 ∧ xs[k.toNat]? = some v ∧ Q v H
theorem get_list {X : Cx} : PGet X rGetL := by
  intro pins s σ H o i ov iv Q I ro ri h
  obtain ⟨p, xs, k, v, rfl, rfl, hp, h0, h1, hv, q⟩ := h
  obtain rfl : ov = Value.ref p := ro
  obtain ⟨tk, rfl⟩ := ri
  obtain ⟨its, rv, pl, hz⟩ := I.list (SqL.of hp)
  obtain ⟨u, eu, ru⟩ := rv.get hv
  exact wpAny_getItem_list pl.isList h0 h1 (by simpa using eu) ⟨v, H, I, ru, q⟩
theorem ixN_nat {n k : Nat} (h : k < n) : L2.ixN n (k : Int) = some k := by
  unfold L2.ixN
  rw [if_pos (by omega), if_pos (by omega)]
  rfl
section
variable [Fam] [Tabz]
theorem RpA.set' {M : Hp} : ∀ {vs : List V} {ds : List PyData} (j : Nat) {v : V} {d : PyData}, RpA M vs ds → Rp M v d → RpA M (vs.set j v) (ds.set j d)
  | _, _, _, _, _, .nil, _ => .nil
  | _, _, 0, _, _, .cons _ t, h => .cons h t
  | _, _, j + 1, _, _, .cons r t, h => .cons r (RpA.set' j t h)
/-- xs[i] += e, of ints -/
def dIxAug (i : Nat) (op : Int → Int → Int) (g f : DF) : DS := fun E ρ n => (∃ ds, ρ[i]? = some (.own ds)) ∧ g ρ n fun y n1 => ∃ (k : Nat) (a : Int), y = .d (.int (k : Nat)) ∧ k < 2 ^ 62 ∧ (∃ ds, ρ[i]? = some (.own ds) ∧ ds[k]? = some (.int a)) ∧ f ρ n1 fun z n2 => ∃ b, z = .d (.int b) ∧ ∃ ds, ρ[i]? = some (.own ds) ∧ k < ds.length ∧ E.nx (ρ.set i (.own (ds.set k (.int (op a b))))) n2
theorem psIxAug {X : Cx} {o e f : Expr} {pos tpos : Pos} {i : Nat} {op : Int → Int → Int} {fo : Operator} {ge fe : DF} (ho : PE X o (tVar i)) (he : PE X e (tD ge)) (hop : PIp X fo (ipI op)) (hf : PE X f (tD fe)) (hs : ∀ (ov iv new : Value), augStore e ov iv new = (do holding [new, ov, iv] (setItem ov iv new); release [new, ov, iv] []; pure Flow.next) := by intros; rfl) :
    PS X (.AugAssign (.Subscript o e tpos) fo f pos) (sD (dIxAug i op ge fe)) := (ps_augS ho he get_list hf hop set_list hs).imp fun D σ H ⟨c, A, n, ρ, E, e, ⟨⟨ds0, e0⟩, hf⟩, L⟩ => by
  obtain ⟨a, vs, h1, h2, h3, h4⟩ := e.slot i _ e0
  refine ⟨_, h2, c, A, n, ρ, _, e, hf, fun v y n1 H1 ⟨k, x, ey, hk, ⟨ds, e1, ex⟩, hg⟩ f1 o1 => ?_⟩
  subst ey
  cases o1
  have E1 := e.fr f1
  obtain ⟨a', vs', k1, k2, k3, k4⟩ := E1.slot i _ e1
  rw [h1] at k1
  cases k1
  obtain ⟨u, eu, ru⟩ := k4.get ex
  cases ru
  refine ⟨a, vs', (k : Int), .int x, rfl, rfl, k3, by omega, by omega, by rw [Int.toNat_natCast]; exact eu, ?_⟩
  refine ⟨c, A, n1, ρ, _, E1, hg, fun w z n2 H2 ⟨b, ez, ds2, e2, hl, hn⟩ f2 o2 => ?_⟩
  subst ez
  cases o2
  have E2 := E1.fr f2
  obtain ⟨a2, vs2, m1, m2, m3, m4⟩ := E2.slot i _ e2
  rw [h1] at m1
  cases m1
  refine ⟨x, b, rfl, rfl, a, vs2, (k : Int), k, rfl, rfl, m3, ixN_nat (by rw [m4.length]; exact hl), ?_⟩
  exact L.nx _ _ _ _ _ hn (E2.mut h1 m3 (.inl ⟨_, rfl⟩) (fun ps z => by cases z) ⟨a, _, h1, m2, upd_same, m4.set' k (Rp.int _)⟩ fun _ => rfl)
/-- xs[i] = e -/
def dIxSet (i : Nat) (g f : DF) : DS := fun E ρ n => f ρ n fun z n1 => (∃ ds, ρ[i]? = some (.own ds)) ∧ g ρ n1 fun y n2 => ∃ k : Nat, y = .d (.int (k : Nat)) ∧ ∃ d, z.dat = some d ∧ ∃ ds, ρ[i]? = some (.own ds) ∧ k < ds.length ∧ E.nx (ρ.set i (.own (ds.set k d))) n2
theorem psIxSet {X : Cx} {o e f : Expr} {pos tpos : Pos} {i : Nat} {ge fe : DF} (hp : PG X (.Subscript o e tpos) (gSub (tVar i) (tD ge) rSetL)) (hf : PE X f (tD fe)) (hs : swapsWithSole [.Subscript o e tpos] f pos.line X.env = pure false := by rfl) (hw : swappedStores [.Subscript o e tpos] f X.env = pure none := by rfl) (h1 : (assignEach [.Subscript o e tpos] X.env).map (·.2) = [assign (.Subscript o e tpos) X.env] := by rfl) :
    PS X (.Assign [.Subscript o e tpos] f pos) (sD (dIxSet i ge fe)) := (ps_asg hf hp hs hw h1).imp fun D σ H ⟨c, A, n, ρ, E, e, hf, L⟩ => by
  refine ⟨c, A, n, ρ, _, e, hf, fun v z n1 H1 ⟨⟨ds0, e0⟩, hg⟩ f1 o1 => ?_⟩
  have E1 := e.fr f1
  obtain ⟨a, vs, h1, h2, h3, h4⟩ := E1.slot i _ e0
  refine ⟨_, h2, c, A, n1, ρ, _, E1, hg, fun w y n2 H2 ⟨k, ey, d, ed, ds, e1, hk, hn⟩ f2 o2 => ?_⟩
  subst ey
  cases o2
  have E2 := E1.fr f2
  obtain ⟨a', vs', k1, k2, k3, k4⟩ := E2.slot i _ e1
  rw [h1] at k1
  cases k1
  have rv : Rp (msk (c.av n2 A) H2) v d := (o1.dat e ed).ex f2.msk
  refine ⟨a, vs', (k : Int), k, rfl, rfl, k3, ixN_nat (by rw [k4.length]; exact hk), ?_⟩
  exact L.nx _ _ _ _ _ hn (E2.mut h1 k3 (.inl ⟨_, rfl⟩) (fun ps z => by cases z) ⟨a, _, h1, k2, upd_same, k4.set' k rv⟩ fun _ => rfl)
end

/-! ### xs[::-1] -/
section
variable [Fam] [Tabz]
def dRevL (f : DF) : DF := fun ρ n Q => f ρ n fun r n1 => ∃ ds, r.dat = some (.list ds) ∧ Q (.own ds.reverse) n1
theorem pdRevL {X : Cx} {e : Expr} {f : DF} (h : PE X e (tRevL X.K (tD f))) : PE X e (tD (dRevL f)) := h.imp fun σ H Q ⟨c, A, n, ρ, Q', E, hf, k⟩ => by
  refine ⟨c, A, n, ρ, _, E, hf, fun v r n1 H1 ⟨ds, ed, hq⟩ f1 o1 => ?_⟩
  have rp := o1.dat E ed
  have E1 := E.fr f1
  cases rp with
  | @lst l xs _ h1 h2 =>
    refine ⟨l, xs, rfl, SqL.of (msk_some h1).2, fun p np => ?_⟩
    exact k _ _ n1 _ hq (f1.trans (FrV.same E1.g (same_new np) (own_new E1 np h2.rev))) (VOk.mono E f1 (own_new E1 np h2.rev))
/-- xs[i], xs a list of one's own -/
def dIxO (i : Nat) (f : DF) : DF := fun ρ n Q => (∃ ds, ρ[i]? = some (.own ds)) ∧ f ρ n fun y n1 => ∃ j : Int, y = .d (.int j) ∧ ∃ ds, ρ[i]? = some (.own ds) ∧ ∃ z, atI ds j = some z ∧ Q (.d z) n1
theorem pdIxO {X : Cx} {i : Nat} {a b : Expr} {pos : Pos} {f : DF} (h : PE X (.Subscript a b pos) (tOp (rIxL X.K) (tVar i) (tD f))) : PE X (.Subscript a b pos) (tD (dIxO i f)) := h.imp fun σ H Q ⟨c, A, n, ρ, Q', E, ⟨⟨ds0, e0⟩, hf⟩, k⟩ => by
  obtain ⟨a, vs, h1, h2, h3, h4⟩ := E.slot i _ e0
  refine ⟨_, h2, c, A, n, ρ, _, E, hf, fun v y n1 H1 ⟨j, ey, ds, e1, z, ez, hq⟩ f1 o1 => ?_⟩
  subst ey
  cases o1
  have E1 := E.fr f1
  obtain ⟨a', vs', k1, k2, k3, k4⟩ := E1.slot i _ e1
  rw [h1] at k1
  cases k1
  obtain ⟨u, eu, ru⟩ := k4.atI ez
  exact ⟨a, vs', j, u, rfl, rfl, SqL.of k3, eu, k u _ n1 H1 hq f1.fr ru⟩
/-- a built-in that looks at a list of one's own and tells no list and no tuple -/
def dBO (i : Nat) (op : List PyData → Option DV) : DF := fun ρ n Q => ∃ ds, ρ[i]? = some (.own ds) ∧ ∃ x, op [.list ds] = some (.d x) ∧ PyData.flat0 x = true ∧ Q (.d x) n
theorem pdBO {X : Cx} {i : Nat} {e : Expr} {r : List V → Hp → VK → Prop} {op : List PyData → Option DV} (hd : RsD r op) (h : PE X e (tCB r (tCons (tVar i) tNil))) : PE X e (tD (dBO i op)) := h.imp fun σ H Q ⟨c, A, n, ρ, Q', E, ⟨ds, e0, x, ex, fl, hq⟩, k⟩ => by
  obtain ⟨a, vs, h1, h2, h3, h4⟩ := E.slot i _ e0
  refine ⟨_, h2, ?_⟩
  have xt : Xt (msk (c.av n A) H) (msk (fun b => c.av n A b ∧ b ≠ a) H) := fun b o _ e => by
    obtain ⟨g1, g2⟩ := msk_some e
    rw [msk_out fun z => g1 z.1]
    exact g2
  have rl : Rp (msk (fun b => c.av n A b ∧ b ≠ a) H) (.ref a) (.list ds) := .lst (by rw [msk_out fun z => z.2 rfl]; exact h3) (h4.ex xt)
  refine hd c.t (fun b => c.av n A b ∧ b ≠ a) H [.ref a] [.list ds] (.d x) Q (fun b hb => (E.there hb.1).imp fun o h => h.1) (.cons rl .nil) ex fun u H' s o => ?_
  have o' : Rp (msk (c.av n A) H') u x := flat_rp fl (show Rp _ u x from o)
  exact k u _ n H' hq (FrV.same E.g s (z := .d x) o') o'
end

/-! ### more over the store: enumerate, != [], index, comprehensions that are kept -/
theorem at_mapY {α β : Type} {f : α → β} {xs : List α} {i : Nat} {d : β} (h : (xs.map f)[i]? = some d) : ∃ p, xs[i]? = some p ∧ d = f p := by
  rw [List.getElem?_map] at h
  cases e : xs[i]? with
  | none => rw [e] at h; cases h
  | some p => rw [e] at h; cases h; exact ⟨p, rfl, rfl⟩
theorem ifTy {b : Bool} {p q : Prop} (h : b = true) (hp : p) : if b = true then p else q := by rw [if_pos h]; exact hp
theorem ifFy {b : Bool} {p q : Prop} (h : b = false) (hq : q) : if b = true then p else q := by rw [if_neg (by rw [h]; exact Bool.false_ne_true)]; exact hq
section
variable [Fam] [Tabz]
theorem lcFMy {α : Type} {ps : List α} {fv : α → PyData} {g : DG} {t : DT} {hD : DF} {vs : List Nat} {ρ : List DV} {n : Fam.S} {Q : DQ} (q : α → Bool) (out : α → PyData) (own : (vs.all fun j => match ρ[j]? with | some x => !x.isOwn | none => false) = true) (big : ps.length ≤ 100000)
    (step : ∀ p ∈ ps, ∃ ρ', g (fv p) (wipeD ρ vs) = some ρ' ∧ (∀ R : Bool → Fam.S → Prop, R (q p) n → t ρ' n R) ∧ (q p = true → ∀ R : DQ, (∀ r, r.dat = some (out p) → R r n) → hD ρ' n R)) (fin : Q (.own ((ps.filter q).map out)) n) : LcOk g t hD vs ρ Q (ps.map fv) n := by
  refine ⟨own, by rw [List.length_map]; exact big, fun i acc m => m = n ∧ acc = ((ps.take i).filter q).map out, ⟨rfl, rfl⟩, ?_, ?_⟩
  · rintro i d acc m hd ⟨rfl, rfl⟩
    obtain ⟨p, hp, rfl⟩ := at_mapY hd
    obtain ⟨ρ', e1, h1, h2⟩ := step p (List.mem_of_getElem? hp)
    refine ⟨ρ', e1, h1 _ ?_⟩
    have et : ((ps.take (i + 1)).filter q).map out = ((ps.take i).filter q).map out ++ if q p then [out p] else [] := by
      rw [List.take_succ, hp, List.filter_append, List.map_append]
      congr 1
      cases e : q p with
      | true => simp [e]
      | false => simp [e]
    cases e : q p with
    | true =>
      rw [if_pos rfl]
      refine h2 e _ fun r er => ⟨_, er, rfl, ?_⟩
      rw [et, e, if_pos rfl]
    | false =>
      rw [if_neg Bool.false_ne_true]
      refine ⟨rfl, ?_⟩
      rw [et, e, if_neg Bool.false_ne_true, List.append_nil]
  · rintro acc m ⟨rfl, rfl⟩
    rw [List.length_map, List.take_length] at *
    exact fin
theorem lcFMyS {α : Type} {ps : List α} {fv : α → PyData} {g : DG} {t : DT} {hD : DF} {vs : List Nat} {ρ : List DV} {n : Fam.S} {I : Fam.S → Prop} {Q : DQ} (q : α → Bool) (out : α → PyData) (own : (vs.all fun j => match ρ[j]? with | some x => !x.isOwn | none => false) = true) (big : ps.length ≤ 100000)
    (step : ∀ p ∈ ps, ∃ ρ', g (fv p) (wipeD ρ vs) = some ρ' ∧ (∀ R : Bool → Fam.S → Prop, R (q p) n → t ρ' n R) ∧ (q p = true → ∀ R : DQ, (∀ r, r.dat = some (out p) → R r n) → hD ρ' n R)) (fin : Q (.own ((ps.filter q).map out)) n)  (hI : I n) : LcOkS g t hD vs ρ Q (ps.map fv) I n := by
  refine ⟨own, by rw [List.length_map]; exact big, fun i acc m => m = n ∧ acc = ((ps.take i).filter q).map out, ⟨rfl, rfl⟩, (fun i acc m z => by rw [z.1]; exact hI), ?_, ?_⟩
  · rintro i d acc m hd ⟨rfl, rfl⟩
    obtain ⟨p, hp, rfl⟩ := at_mapY hd
    obtain ⟨ρ', e1, h1, h2⟩ := step p (List.mem_of_getElem? hp)
    refine ⟨ρ', e1, h1 _ ?_⟩
    have et : ((ps.take (i + 1)).filter q).map out = ((ps.take i).filter q).map out ++ if q p then [out p] else [] := by
      rw [List.take_succ, hp, List.filter_append, List.map_append]
      congr 1
      cases e : q p with
      | true => simp [e]
      | false => simp [e]
    cases e : q p with
    | true =>
      rw [if_pos rfl]
      refine h2 e _ fun r er => ⟨_, er, rfl, ?_⟩
      rw [et, e, if_pos rfl]
    | false =>
      rw [if_neg Bool.false_ne_true]
      refine ⟨rfl, ?_⟩
      rw [et, e, if_neg Bool.false_ne_true, List.append_nil]
  · rintro acc m ⟨rfl, rfl⟩
    rw [List.length_map, List.take_length] at *
    exact fin
/-- ss.index(s), texts -/
def dIdxS (f g : DF) : DF := fun ρ n Q => f ρ n fun x n1 => (∃ ss : List Str, x.dat = some (.list (ss.map PyData.str))) ∧ g ρ n1 fun y n2 => ∃ (ss : List Str) (a : Str) (j : Nat), x.dat = some (.list (ss.map PyData.str)) ∧ y = .d (.str a) ∧ ss[j]? = some a ∧ (∀ (m : Nat) (b : Str), m < j → ss[m]? = some b → b ≠ a) ∧ Q (.d (.int (j : Nat))) n2
theorem rp_strsV {M : Hp} : ∀ {vs : List V} {ss : List Str}, RpA M vs (ss.map PyData.str) → vs = ss.map V.str
  | [], [], _ => rfl
  | _, [], h => by cases h; rfl
  | _, s :: ss, h => by
    cases h with
    | cons r t =>
      cases r
      rw [rp_strsV t]
      rfl
theorem flat_strs : ∀ ss : List Str, (ss.map V.str).all flatV = true
  | [] => rfl
  | s :: ss => by
    rw [List.map_cons, List.all_cons, flat_strs ss]
    rfl
theorem pdIdxS {X : Cx} {e : Expr} {f g : DF} (h : PE X e (tBM X.K "list" (rIndex X.K) (tD f) (tCons (tD g) tNil))) : PE X e (tD (dIdxS f g)) := h.imp fun σ H Q ⟨c, A, n, ρ, Q', E, hf, k⟩ => by
  refine ⟨c, A, n, ρ, _, E, hf, fun v x n1 H1 ⟨⟨ss0, e0⟩, hg⟩ f1 o1 => ?_⟩
  have E1 := E.fr f1
  have r0 := o1.dat E e0
  have key : ∃ a, v = .ref a := by
    cases r0
    exact ⟨_, rfl⟩
  obtain ⟨a, rfl⟩ := key
  have hl0 : SqL X.K H1 a (ss0.map V.str) := by
    cases r0 with
    | lst h1 h2 =>
      rw [rp_strsV h2] at h1
      exact SqL.of (msk_some h1).2
  refine ⟨.inl ⟨rfl, _, hl0⟩, c, A, n1, ρ, _, E1, hg, fun w y n2 H2 ⟨ss, b, j, es, ey, ej, hn, hq⟩ f2 o2 => ?_⟩
  subst ey
  cases o2
  rw [e0] at es
  injection es with es
  injection es with es
  have r2 : Rp (msk (c.av n2 A) H2) (.ref a) (.list (ss0.map PyData.str)) := r0.ex f2.msk
  have es2 : ss0 = ss := by
    have : ∀ {a b : List Str}, a.map PyData.str = b.map PyData.str → a = b := fun {a} => by
      induction a with
      | nil =>
        intro b h
        cases b with
        | nil => rfl
        | cons _ _ => cases h
      | cons x a ih =>
        intro b h
        cases b with
        | nil => cases h
        | cons y b =>
          rw [List.map_cons, List.map_cons] at h
          injection h with h1 h2
          injection h1 with h1
          rw [h1, ih h2]
    exact this es
  subst es2
  cases r2 with
  | lst h1 h2 =>
    rw [rp_strsV h2] at h1
    refine ⟨a, ss0.map V.str, .str b, j, .str b, rfl, rfl, SqL.of (msk_some h1).2, rfl, flat_strs ss0, by rw [List.getElem?_map, ej]; rfl, by simp [eqV], fun m z' hm hz => ?_, k _ _ n2 H2 hq (f1.trans f2.fr) (Rp.int _)⟩
    rw [List.getElem?_map] at hz
    cases q : ss0[m]? with
    | none => rw [q] at hz; cases hz
    | some b' =>
      rw [q] at hz
      cases hz
      have := hn m b' hm q
      simp [eqV, this]
end
section
variable [Bas] [Tabz]
local instance (priority := high) yoFam9 : Fam := famS
/-- enumerate(xs), xs a list of the store -/
def dEnumH (f : DF) : DIS := fun ρ n Q => f ρ n fun x n1 => ∃ a ds, x = .d (hnd a) ∧ n1.2 a = some (.lst ds) ∧ Q (enumD ds) (fun n => n.2 a = some (.lst ds)) n1
theorem piEnumH {X : Cx} {tg e : Expr} {f : DF} (h : PI X tg e (iEnum X.K (tCons (tD f) tNil))) : PI X tg e (iDS (dEnumH f)) := h.imp fun σ H R ⟨c, A, n, ρ, Q', E, hf, k⟩ => by
  refine ⟨c, A, n, ρ, _, E, hf, fun v r n1 H1 ⟨a, ds, ex, es, hq⟩ f1 o1 => ?_⟩
  subst ex
  cases o1
  have E1 := E.fr f1
  obtain ⟨⟨xs, q1, q2⟩, _⟩ := E1.sat es
  refine ⟨a, xs, rfl, SqL.of q1, k _ _ _ n1 H1 [] hq f1.fr (fun p hp => by cases hp) fun A n σ H ρ E' hI => ?_⟩
  obtain ⟨⟨ys, g2, g3⟩, _⟩ := E'.sat hI
  have hl := g3.length
  have hs := SqL.of (K := X.K) g2
  have hle := (show xs.length = ds.length from q2.length)
  have hxy : xs.length = ys.length := by rw [hle, hl]
  refine ⟨fun i d hd => ?_, walk_enum.stops H hs |> fun z => by rw [enumD_len, ← hl]; exact z⟩
  have hi : i < ds.length := by
    have := (List.getElem?_eq_some_iff.mp hd).1
    rwa [enumD_len] at this
  unfold enumD at hd
  rw [List.getElem?_map, List.getElem?_range hi] at hd
  cases hd
  obtain ⟨y, e2, r2⟩ := g3.get (List.getElem?_eq_getElem hi)
  have hiy : i < ys.length := by rw [hl]; exact hi
  exact ⟨walk_enum.goes i H hiy hs, fun x H2 yl => by
    obtain ⟨T, u, w, rfl, hT, rfl, hu, hw⟩ := walk_enum.yields i H x H2 hiy hs yl
    cases hu
    have hw' : ys[i]? = some w := hw
    rw [e2] at hw'
    cases hw'
    refine ⟨same_new hT, ?_⟩
    show Rp _ _ (.tuple [.int (i : Nat), ds.getD i .none])
    rw [show ds.getD i .none = ds[i] by rw [List.getD_eq_getElem?_getD, List.getElem?_eq_getElem hi]; rfl]
    exact new_pair E' hT (.int _) r2⟩
/-- xs != [], xs a list of the store -/
def dNeEH (f g : DF) : DT := fun ρ n Q => f ρ n fun x n1 => ∃ a, x = .d (hnd a) ∧ g ρ n1 fun y n2 => ∃ ds, n2.2 a = some (.lst ds) ∧ y.dat = some (.list []) ∧ Q (!ds.isEmpty) n2
theorem ptNeEH {X : Cx} {a b : Expr} {f g : DF} {pos : Pos} (hu : X.A.units + 64 < cLine) (ha : PE X a (tD f)) (hb : PE X b (tD g)) (hm : behindInMarks .NotEq b = false := by rfl) : PT X (.Compare a [.NotEq] [b] pos) (tDT (dNeEH f g)) := (pt_cmpR (op_neE hu) ha hb hm).imp fun σ H Q ⟨c, A, n, ρ, Q', E, hf, k⟩ => by
  refine ⟨c, A, n, ρ, _, E, hf, fun v x n1 H1 ⟨a, ex, hg⟩ f1 o1 => ?_⟩
  subst ex
  cases o1
  have E1 := E.fr f1
  refine ⟨c, A, n1, ρ, _, E1, hg, fun w y n2 H2 ⟨ds, es, ed, hq⟩ f2 o2 => ?_⟩
  have E2 := E1.fr f2
  obtain ⟨⟨vs, h1, h2⟩, _⟩ := E2.sat es
  have ry := o2.dat E1 ed
  cases ry with
  | @lst b ys _ g1 g2 =>
    cases g2
    refine ⟨a, b, vs, rfl, rfl, SqL.of h1, SqL.of (msk_some g1).2, _, rfl, ?_⟩
    rw [h2.empty]
    exact k _ n2 H2 hq (f1.trans f2).fr
/-- what one has made is kept in the store -/
theorem abs_le {f : DF} (σ : L2.St) (H : Hp) (Q : VK) (q : tD (dAbs f) σ H Q) : tD f σ H Q := by
  obtain ⟨c, A, n, ρ, Q', E, hf, k⟩ := q
  refine ⟨c, A, n, ρ, _, E, hf, fun v r n1 H1 hq f1 o1 => ?_⟩
  cases r with
  | own ds =>
    obtain ⟨a, vs, rfl, h2, h3, h4⟩ := o1
    exact k _ _ _ H1 (hq a (nav_none h2.2)) (absorb E f1 rfl h2.1 h2.2 ⟨vs, h3, h4⟩) (Rp.hnd a)
  | dic ds =>
    obtain ⟨a, vs, rfl, h2, h3, h4⟩ := o1
    exact k _ _ _ H1 (hq a (nav_none h2.2)) (absorb E f1 rfl h2.1 h2.2 ⟨vs, h3, h4⟩) (Rp.hnd a)
  | un => exact k _ _ _ H1 hq f1 o1
  | tape => exact k _ _ _ H1 hq f1 o1
  | raw v => exact k _ _ _ H1 hq f1 o1
  | d x => exact k _ _ _ H1 hq f1 o1
end

/-! ### sorted of texts: a list of them, the keys of a dict of the store -/
section
variable [Fam] [Tabz]
theorem rp_strsS {M : Hp} : ∀ ns : List Str, RpA M (ns.map V.str) (ns.map PyData.str)
  | [] => .nil
  | n :: ns => .cons (.str n) (rp_strsS ns)
def dSortS (f : DF) : DF := fun ρ n Q => f ρ n fun r n1 => ∃ ds, r.dat = some (.list ds) ∧ ∃ ns, strsOf ds = some ns ∧ ns.length < 64 ∧ ∀ out : List Str, out.Perm ns → PyProof.Rows.sortedS out = true → Q (.own (out.map PyData.str)) n1
theorem pdSortS {X : Cx} {e : Expr} {f : DF} (h : PE X e (tCB (rSortedS X.K) (tCons (tD f) tNil))) : PE X e (tD (dSortS f)) := h.imp fun σ H Q ⟨c, A, n, ρ, Q', E, hf, k⟩ => by
  refine ⟨c, A, n, ρ, _, E, hf, fun v r n1 H1 ⟨ds, ed, ns, en, few, hq⟩ f1 o1 => ?_⟩
  have rp := o1.dat E ed
  have E1 := E.fr f1
  cases rp with
  | @lst l xs _ h1 h2 =>
    have ex := strs_of h2 en
    subst ex
    exact ⟨l, ns, rfl, SqL.of (msk_some h1).2, few, fun out p pm so np => k _ _ n1 _ (hq out pm so) (f1.trans (FrV.same E1.g (same_new np) (own_new E1 np (rp_strsS out)))) (VOk.mono E f1 (own_new E1 np (rp_strsS out)))⟩
end
section
variable [Bas] [Tabz]
local instance (priority := high) yoFamSrts : Fam := famS
theorem KRp.keys {M : Hp} {ws : List (Key × V)} {kvs : List (Key × PyData)} (r : KRp M ws kvs) : ws.map (·.1) = kvs.map (·.1) := by
  induction r with
  | nil => rfl
  | cons _ _ ih => exact congrArg (_ :: ·) ih
def rSortedDS : List V → Hp → VK → Prop := fun xs H Q => ∃ (a : Addr) (kvs : List (Key × V)) (ks : List Str), xs = [.ref a] ∧ Rd H a (.dK kvs) ∧ kvs.map (·.1) = ks.map Sum.inr ∧ ks.length < 64 ∧
    ∀ ys p, ys.Perm ks → PyProof.Rows.sortedS ys = true → H p = none → Q (.ref p) (upd H p (.lst (ys.map V.str)))
theorem cr_sortedDS {X : Cx} (hc : X.calm = true) : CallR X (.builtin "sorted") rSortedDS := call_sortedD hc
def dSortDH (f : DF) : DF := fun ρ n Q => f ρ n fun x n1 => ∃ a kvs, x = .d (hnd a) ∧ n1.2 a = some (.dK kvs) ∧ ∃ ks : List Str, kvs.map (·.1) = ks.map Sum.inr ∧ ks.length < 64 ∧ ∀ out : List Str, out.Perm ks → PyProof.Rows.sortedS out = true → Q (.own (out.map PyData.str)) n1
theorem pdSortDH {X : Cx} {e : Expr} {f : DF} (h : PE X e (tCB rSortedDS (tCons (tD f) tNil))) : PE X e (tD (dSortDH f)) := h.imp fun σ H Q ⟨c, A, n, ρ, Q', E, hf, k⟩ => by
  refine ⟨c, A, n, ρ, _, E, hf, fun v r n1 H1 ⟨a, kvs, ex, es, ks, ek, few, hq⟩ f1 o1 => ?_⟩
  subst ex
  cases o1
  have E1 := E.fr f1
  obtain ⟨⟨vs, h1, h2⟩, _⟩ := E1.sat es
  exact ⟨a, vs, ks, rfl, .inl h1, h2.keys.trans ek, few, fun out p pm so np => k _ _ n1 _ (hq out pm so) (f1.trans (FrV.same E1.g (same_new np) (own_new E1 np (rp_strsS out)))) (VOk.mono E f1 (own_new E1 np (rp_strsS out)))⟩
end

/-! ### a set's new table has room for all: any of the masks that come -/
section
open TS
structure Cyc (m : Nat) : Prop where
  all : ∀ j, j ≤ m → ∃ b, b ≤ m ∧ lcgN m b = j
  rnd : lcgN m (m + 1) = 0
theorem cyc_of {m : Nat} (h : ((List.range (m + 1)).all fun j => (List.range (m + 1)).any fun b => lcgN m b == j) = true) (r : lcgN m (m + 1) = 0) : Cyc m := ⟨fun j hj => by
  obtain ⟨b, hb, e⟩ := List.any_eq_true.mp (List.all_eq_true.mp h j (List.mem_range.mpr (Nat.lt_succ_of_le hj)))
  exact ⟨b, Nat.le_of_lt_succ (List.mem_range.mp hb), beq_iff_eq.mp e⟩, r⟩
theorem cyc7 : Cyc 7 := cyc_of (by decide +kernel) (by decide +kernel)
theorem cyc15 : Cyc 15 := cyc_of (by decide +kernel) (by decide +kernel)
theorem cyc31 : Cyc 31 := cyc_of (by decide +kernel) (by decide +kernel)
theorem cyc63 : Cyc 63 := cyc_of (by decide +kernel) (by decide +kernel)
theorem Cyc.mod {m : Nat} (c : Cyc m) : ∀ k, lcgN m (m + 1 + k) = lcgN m k
  | 0 => c.rnd
  | k + 1 => by
    have := c.mod k
    show (lcgN m (m + 1 + k) * 5 + 1) % (m + 1) = (lcgN m k * 5 + 1) % (m + 1)
    rw [this]
theorem Cyc.meets {m : Nat} (c : Cyc m) {i j : Nat} (hi : i ≤ m) (hj : j ≤ m) : ∃ k, k ≤ m ∧ lcgI m i k = j := by
  obtain ⟨a, ha, ea⟩ := c.all i hi
  obtain ⟨b, hb, eb⟩ := c.all j hj
  by_cases z : a ≤ b
  · exact ⟨b - a, by omega, by rw [← ea, lcgN_add, show a + (b - a) = b by omega, eb]⟩
  · exact ⟨m + 1 + b - a, by omega, by rw [← ea, lcgN_add, show a + (m + 1 + b - a) = m + 1 + b by omega, c.mod, eb]⟩
theorem free_any {m : Nat} {owner : Array (Option Nat)} : ∀ (f n i b : Nat), i ≤ m → n < f → oAt owner (itL m i b n).1 = none → ∃ j, SetTable.layClean.free m owner f i b = some j ∧ j ≤ m ∧ oAt owner j = none
  | 0, _, _, _, _, h, _ => absurd h (Nat.not_lt_zero _)
  | f + 1, n, i, b, hi, hn, he => by
    have bd := runEnd_bd hi
    rw [free_succ]
    cases q : (List.range (SetTable.runEnd m i + 1 - i)).find? fun k => (oAt owner (i + k)).isNone with
    | some k =>
      have h1 := List.find?_some q
      have h2 := List.mem_range.mp (List.mem_of_find?_eq_some q)
      exact ⟨i + k, rfl, by omega, Option.isNone_iff_eq_none.mp h1⟩
    | none =>
      have h0 := List.find?_eq_none.mp q 0 (List.mem_range.mpr (by omega))
      cases n with
      | zero =>
        have he : oAt owner i = none := he
        rw [Nat.add_zero, he] at h0
        exact absurd rfl h0
      | succ n => exact free_any f n _ _ (Nat.le_of_lt_succ (Nat.mod_lt _ (Nat.succ_pos _))) (by omega) he
structure Sat (m n : Nat) (owner : Array (Option Nat)) : Prop where
  sz : owner.size = m + 1
  all : ∀ k, k < n → ∃ j, j ≤ m ∧ oAt owner j = some k
  ps : ∃ ps : List Nat, ps.length = n ∧ ∀ j, j ≤ m → oAt owner j ≠ none → j ∈ ps
theorem Sat.step {m n : Nat} {owner : Array (Option Nat)} (c : Cyc m) (S : Sat m n owner) (hn : n ≤ m) (h : Int) : ∃ owner', stepF m (some (owner, n)) h = some (owner', n + 1) ∧ Sat m (n + 1) owner' := by
  obtain ⟨ps, p1, p2⟩ := S.ps
  obtain ⟨j0, h0, hn0⟩ := st_missing ps (m + 1) (by omega)
  have e0 : oAt owner j0 = none := by
    cases z : oAt owner j0 with
    | none => rfl
    | some k => exact absurd (p2 j0 (by omega) (by rw [z]; exact fun e => nomatch e)) hn0
  obtain ⟨k, hk, ek⟩ := c.meets (runI_le m (SetTable.bits h) 12) (show j0 ≤ m by omega)
  obtain ⟨j, f1, f2, f3⟩ := free_any (m := m) (owner := owner) (SetTable.turns m) (12 + k) (SetTable.bits h % (m + 1)) (SetTable.bits h) (Nat.le_of_lt_succ (Nat.mod_lt _ (Nat.succ_pos _))) (by unfold SetTable.turns; omega) (by
    rw [itL_run]
    show oAt owner (runI m (SetTable.bits h) (12 + k)) = none
    rw [runI_tail (bits_lt h), ek]
    exact e0)
  have hj : j < owner.size := by rw [S.sz]; omega
  refine ⟨_, stepF_some f1, by rw [Array.size_setIfInBounds]; exact S.sz, fun k' hk' => ?_, j :: ps, by rw [List.length_cons, p1], fun j' hj' e' => ?_⟩
  · by_cases z : k' = n
    · exact ⟨j, f2, by rw [oAt_set_self _ hj, z]⟩
    · obtain ⟨j', a1, a2⟩ := S.all k' (by omega)
      refine ⟨j', a1, ?_⟩
      rw [oAt_set_ne _ (fun z => by rw [z, f3] at a2; cases a2)]
      exact a2
  · by_cases z : j' = j
    · rw [z]
      exact List.mem_cons_self
    · rw [oAt_set_ne _ z] at e'
      exact List.mem_cons_of_mem _ (p2 j' hj' e')
theorem Sat.run {m : Nat} (c : Cyc m) : ∀ (hs : List Int) (n : Nat) (owner : Array (Option Nat)), Sat m n owner → n + hs.length ≤ m → ∃ owner', hs.foldl (stepF m) (some (owner, n)) = some (owner', n + hs.length) ∧ Sat m (n + hs.length) owner'
  | [], n, owner, S, _ => ⟨owner, rfl, S⟩
  | h :: hs, n, owner, S, hl => by
    rw [List.length_cons] at hl ⊢
    obtain ⟨o1, e1, S1⟩ := S.step c (by omega) h
    obtain ⟨o2, e2, S2⟩ := Sat.run c hs (n + 1) o1 S1 (by omega)
    rw [List.foldl_cons, e1, show n + (hs.length + 1) = n + 1 + hs.length by omega]
    exact ⟨o2, e2, S2⟩
/-- laid finds room for all -/
theorem laid_fits {m f mv : Nat} {led plain : Bool} {hs : Array Int} (c : Cyc m) (hn : hs.size ≤ m) : ∃ t order, SetTable.laid m f mv led plain hs = some (t, order) ∧ order.toList.Perm (List.range hs.size) ∧ t.place.size = hs.size ∧ t.dummies = #[] ∧ t.mask = m ∧ Ris t.place.toList ∧ t.led = led := by
  have S0 : Sat m 0 (Array.replicate (m + 1) none) := ⟨by simp, fun k hk => absurd hk (Nat.not_lt_zero _), [], rfl, fun j hj e => absurd (oAt_init hj) e⟩
  obtain ⟨owner, e, S⟩ := Sat.run c hs.toList 0 _ S0 (by rw [Array.length_toList]; omega)
  have hz : hs.toList.length = hs.size := Array.length_toList
  rw [hz, Nat.zero_add] at e S
  have e2 : SetTable.layClean m hs = some owner := by
    rw [layClean_eq, e]
    rfl
  have ris := ris_live (fun j => owner.getD j none) (List.range (m + 1)) (by
    unfold Ris
    exact List.pairwise_lt_range)
  have nd : ((liveOf m owner).map (·.1)).Nodup := List.Pairwise.imp (fun h => Nat.ne_of_lt h) ris.1
  have len : (liveOf m owner).length = hs.size := by
    obtain ⟨ps, p1, p2⟩ := S.ps
    have a := nat_nodup_len _ ps nd fun x hx => by
      obtain ⟨⟨y, k⟩, hq, rfl⟩ := List.mem_map.mp hx
      obtain ⟨b1, b2⟩ := (mem_live S.sz).1 hq
      exact p2 y b1 (by rw [b2]; exact fun z => nomatch z)
    have b := nat_nodup_len (List.range hs.size) ((liveOf m owner).map (·.2)) List.nodup_range fun k hk => by
      obtain ⟨j, b1, b2⟩ := S.all k (List.mem_range.mp hk)
      exact List.mem_map.mpr ⟨(j, k), (mem_live S.sz).2 ⟨b1, b2⟩, rfl⟩
    rw [List.length_map] at a b
    rw [List.length_range] at b
    omega
  refine ⟨_, _, by unfold SetTable.laid; rw [e2]; rfl, ?_, ?_, rfl, rfl, ris.1, rfl⟩
  · refine perm_range hs.size _ ?_ fun k hk => ?_
    · show ((liveOf m owner).map (·.2)).length = hs.size
      rw [List.length_map, len]
    · obtain ⟨j, b1, b2⟩ := S.all k hk
      exact List.mem_map.mpr ⟨(j, k), (mem_live S.sz).2 ⟨b1, b2⟩, rfl⟩
  · show ((liveOf m owner).map (·.1)).toArray.size = hs.size
    rw [List.size_toArray, List.length_map, len]
end

/-! ### a set's entries, with what a walk over it wants: its places rise, its order is led -/
section
open TS PySem.Spec PyProof.Rows
variable {P : Program} {w : World} {A : Around} {E : Value → Shared → Prop} {s : Shared} {K : Type} [DecidableEq K] {knd : KeyKind P w K}
theorem perm_size {a b : Array (Int × Value)} (h : a.toList.Perm b.toList) : a.size = b.size := by
  rw [← Array.length_toList, h.length_eq, Array.length_toList]
def Led (w : World) (t : SetTable) : Prop := Ris t.place.toList ∧ (w.params.followText "set-order" = true ∨ t.led = true)
def Uq (knd : KeyKind P w K) (l : List (Int × Value)) : Prop := l.Pairwise fun e f => ∀ k, knd.is k e.2 = true → knd.is k f.2 = false
theorem uq_perm {l m : List (Int × Value)} (h : l.Perm m) : Uq knd l ↔ Uq knd m := h.pairwise_iff fun {x y} r k hy => by
  cases z : knd.is k x.2 with
  | false => rfl
  | true => rw [r k z] at hy; cases hy
def SetT (knd : KeyKind P w K) (h : Heap) (a : Addr) (S : K → Bool) (n : Nat) : Prop := ∃ o es ep t, h.get? a = some o ∧ o.ExactSet ∧ o.data = .set es ep t ∧ ElemsOf knd es.toList ∧ (∀ k, S k = true ↔ ∃ e ∈ es.toList, knd.is k e.2 = true) ∧ es.size < scanBound ∧ t.fits es.size = true ∧ es.size = n ∧ Led w t ∧ Uq knd es.toList
theorem SetT.of {h : Heap} {a : Addr} {S : K → Bool} {n : Nat} (T : SetT knd h a S n) : h.SetOf knd a S n := by
  obtain ⟨o, es, ep, t, h1, h2, h3, h4, h5, h6, h7, h8, _⟩ := T
  exact ⟨o, es, ep, t, h1, h2, h3, h4, h5, h6, h7, h8⟩
theorem SetT.keep {h h' : Heap} {a : Addr} {S : K → Bool} {n : Nat} (T : SetT knd h a S n) (k : ∀ o, h.get? a = some o → h'.get? a = some o) : SetT knd h' a S n := by
  obtain ⟨o, es, ep, t, ho, r⟩ := T
  exact ⟨o, es, ep, t, k o ho, r⟩
/-- what is stored in a set's place -/
theorem set_put {h : Heap} {a : Addr} {o : Obj} {es : Array (Int × Value)} {ep : Nat} {t : SetTable} (ho : h.get? a = some o) (hd : o.data = .set es ep t) (es' : Array (Int × Value)) (t' : SetTable) : (h.update a (Obj.putSet es' t')).get? a = some { o with data := .set es' (ep + 1) t' } := by
  have hg := Heap.get?_update_self (Obj.putSet es' t') ho (by rw [putSet_of es' t' hd]; rfl)
  rw [putSet_of es' t' hd] at hg
  exact hg
theorem add_T {a : Addr} {S : K → Bool} {n : Nat} {k : K} {x : Value} {Q : Bool → Shared → Prop} (hkey : knd.is k x = true) (hsc : x.scannable = true) (T : SetT knd s.heap a S n) (room : n + 1 < scanBound)
    (q : ∀ h', Heap.SameBut a s.heap h' → SetT knd h' a (fun j => S j || decide (j = k)) (if S k then n else n + 1) → Q (!S k) { s with heap := h' }) : wpAny (model P w) A (setAddHashed a x (knd.hash k)) Q E s := by
  obtain ⟨o, es, ep, t, ho, hex, hd, hel, hm, hb, hf, hn, ⟨hris, hled⟩, hu⟩ := T
  have gw : ∀ (b : Bool) {s₁ : Shared} {R : Unit → Shared → Prop}, R () s₁ → wpAny (model P w) A (match b with | true => rule "set.scan.the-table-gave-way" | false => pure ()) R E s₁ := fun b s₁ R hq => by
    cases b
    · exact wpAny_pure hq
    · exact wpAny_rule hq
  unfold setAddHashed setAddHashedIn
  refine wpAny_holding (wpAny_bind (wpAny_setState_of ho hd hf ?_))
  dsimp only
  rw [byScan_of hsc hb hel]
  simp only [↓reduceIte]
  unfold setAddByScan
  refine wpAny_bind (wpAny_bind (wpAny_rule (wpAny_bind (wpAny_setScan_of hkey ho hd hf hel ?_))))
  cases hx : List.findIdx? (fun e => knd.is k e.2) es.toList with
  | some j =>
    dsimp only
    obtain ⟨hj, pj, _⟩ := List.findIdx?_eq_some_iff_getElem.mp hx
    have sk : S k = true := (hm k).mpr ⟨es.toList[j], List.getElem_mem hj, pj⟩
    have z := q s.heap (Heap.SameBut.refl a s.heap) ⟨o, es, ep, t, ho, hex, hd, hel, fun i => by
      rw [Bool.or_eq_true, decide_eq_true_eq, ← hm i]
      exact ⟨fun y => y.elim id (fun e => e ▸ sk), .inl⟩, hb, hf, by rw [if_pos sk]; exact hn, ⟨hris, hled⟩, hu⟩
    rw [sk] at z
    exact wpAny_pure (wpAny_pure z)
  | none =>
    dsimp only
    have sk : S k = false := by
      cases y : S k with
      | false => rfl
      | true =>
        obtain ⟨e, he, pe⟩ := (hm k).mp y
        have := List.findIdx?_eq_none_iff.mp hx e he
        rw [pe] at this
        cases this
    have pm := layNew_perm t es (knd.hash k) x
    have ff := layNew_fits t es (knd.hash k) x
    have rr := layNew_ris t es (knd.hash k) x hris
    have ll := layNew_led t es (knd.hash k) x
    generalize layNew t es (knd.hash k) x = L at pm ff rr ll ⊢
    obtain ⟨es1, t1, wd, gv⟩ := L
    dsimp only at pm ff rr ll ⊢
    rw [Array.toList_push] at pm
    have hel1 : ElemsOf knd es1.toList := (hel.push hkey hsc).perm pm
    have hm1 : ∀ j, (S j || decide (j = k)) = true ↔ ∃ e ∈ es1.toList, knd.is j e.2 = true := mem_push_iff hkey hm pm
    have hu1 : Uq knd es1.toList := (uq_perm pm).mpr (List.pairwise_append.mpr ⟨hu, List.pairwise_singleton _ _, fun e he f hf0 kk hkk => by
      rw [List.mem_singleton.mp hf0]
      cases z : knd.is kk x with
      | false => rfl
      | true =>
        have e0 := List.findIdx?_eq_none_iff.mp hx e he
        have ek : kk = k := knd.inj x kk k z hkey
        rw [← ek, hkk] at e0
        cases e0⟩)
    have sz1 : es1.size = n + 1 := by
      rw [← Array.length_toList, pm.length_eq, List.length_append, Array.length_toList, hn]
      rfl
    have hled1 : w.params.followText "set-order" = true ∨ t1.led = true := hled.imp id fun z => ll.trans z
    refine wpAny_bind (gw _ ?_)
    have fin : ∀ (t2 : SetTable), t2.fits es1.size = true → Ris t2.place.toList → (w.params.followText "set-order" = true ∨ t2.led = true) → wpAny (model P w) A (do
        storeSet a es1 t2
        if (!wd && t2.tooFull) = true then do
            (match (relayAll t2 es1 (SetTable.grown es1.size)).2.2 with | true => rule "set.scan.the-table-gave-way" | false => pure ())
            storeSet a (relayAll t2 es1 (SetTable.grown es1.size)).1 (relayAll t2 es1 (SetTable.grown es1.size)).2.1
            pure (some true)
          else pure (some true)) (fun r s' => wpAny (model P w) A (match r with | some added => pure added | none => setAddHashedIn a x (knd.hash k) 99999) Q E s') E s := fun t2 f2 r2 l2 => by
      refine wpAny_bind (wpAny_storeSet_of ho hd ?_ (fits_of_scanBound (by rw [sz1]; exact room)))
      have g1 := set_put ho hd es1 t2
      have sb1 := Heap.SameBut.update s.heap a (Obj.putSet es1 t2)
      have ends : ∀ h' es2 ep2 t3, Heap.SameBut a s.heap h' → h'.get? a = some { o with data := .set es2 ep2 t3 } → es2.toList.Perm es1.toList → t3.fits es2.size = true → Led w t3 → Q true { s with heap := h' } := fun h' es2 ep2 t3 sb g p f l => by
        have e2 := perm_size p
        have z := q h' sb ⟨_, es2, ep2, t3, g, hex, rfl, hel1.perm p, fun j => (hm1 j).trans ⟨fun ⟨e, he, y⟩ => ⟨e, p.mem_iff.mpr he, y⟩, fun ⟨e, he, y⟩ => ⟨e, p.mem_iff.mp he, y⟩⟩, by rw [e2, sz1]; exact room, f, by rw [if_neg (by rw [sk]; decide), e2, sz1], l, (uq_perm p).mpr hu1⟩
        rw [sk] at z
        exact z
      split
      · have p2 := relayAll_perm t2 es1 (SetTable.grown es1.size)
        have f3 := relayAll_fits t2 es1 (SetTable.grown es1.size)
        have r3 := relayAll_ris t2 es1 (SetTable.grown es1.size)
        have l3 := relayAll_led t2 es1 (SetTable.grown es1.size)
        generalize relayAll t2 es1 (SetTable.grown es1.size) = Z at p2 f3 r3 l3 ⊢
        obtain ⟨es2, t3, gv2⟩ := Z
        dsimp only at p2 f3 r3 l3 ⊢
        have e2 := perm_size p2
        refine wpAny_bind (gw _ ?_)
        refine wpAny_bind (wpAny_storeSet_of g1 rfl ?_ (fits_of_scanBound (by rw [e2, sz1]; exact room)))
        exact wpAny_pure (wpAny_pure (ends _ es2 _ t3 (sb1.trans (Heap.SameBut.update _ a _)) (set_put g1 rfl es2 t3) p2 f3 ⟨r3, l2.imp id fun z => l3.trans z⟩))
      · exact wpAny_pure (wpAny_pure (ends _ es1 _ t2 sb1 g1 (List.Perm.refl _) f2 ⟨r2, l2⟩))
    split
    · refine wpAny_bind ?_
      rw [hashByValue_scannable 8 hsc]
      refine wpAny_pure ?_
      split
      · exact fin t1 ff rr hled1
      · exact fin _ (SetTable.fits_plain_off ff) rr hled1
    · refine wpAny_bind (wpAny_pure ?_)
      simp only [↓reduceIte]
      exact fin t1 ff rr hled1
theorem led_and {a b : Bool} (h1 : w.params.followText "set-order" = true ∨ a = true) (h2 : w.params.followText "set-order" = true ∨ b = true) : w.params.followText "set-order" = true ∨ (a && b) = true := by
  rcases h1 with z | z
  · exact .inl z
  · rcases h2 with y | y
    · exact .inl y
    · exact .inr (by rw [z, y]; rfl)
end

/-! ### the union of two sets: room, copy, merge -/
section
open TS PySem.Spec PyProof.Rows
variable {P : Program} {w : World} {A : Around} {E : Value → Shared → Prop} {s : Shared} {K : Type} [DecidableEq K] {knd : KeyKind P w K}
theorem size_cyc {n : Nat} (h : n < 64) : ∃ M, SetTable.sizeAbove n = M + 1 ∧ Cyc M ∧ n ≤ M ∧ M ≤ 63 := by
  have key : ((List.range 64).all fun n => (SetTable.sizeAbove n == 8 || SetTable.sizeAbove n == 16 || SetTable.sizeAbove n == 32 || SetTable.sizeAbove n == 64) && decide (n < SetTable.sizeAbove n)) = true := by decide +kernel
  have k := List.all_eq_true.mp key n (List.mem_range.mpr h)
  simp only [Bool.and_eq_true, Bool.or_eq_true, beq_iff_eq, decide_eq_true_eq] at k
  obtain ⟨k1, k2⟩ := k
  rcases k1 with ((e | e) | e) | e
  · exact ⟨7, e, cyc7, by omega, by decide⟩
  · exact ⟨15, e, cyc15, by omega, by decide⟩
  · exact ⟨31, e, cyc31, by omega, by decide⟩
  · exact ⟨63, e, cyc63, by omega, by decide⟩
theorem order_perm {es : Array (Int × Value)} {order : Array Nat} (h : order.toList.Perm (List.range es.size)) : (order.filterMap (es[·]?)).toList.Perm es.toList := by
  have e : (order.filterMap (es[·]?)).toList = order.toList.filterMap (es[·]?) := by simp
  rw [e]
  refine (h.filterMap _).trans ?_
  rw [filterMap_getElem?_range]
theorem relay_of {a : Addr} {o : Obj} {es : Array (Int × Value)} {ep : Nat} {t : SetTable} {wanted : Nat} {Q : Unit → Shared → Prop} (ho : s.heap.get? a = some o) (hd : o.data = .set es ep t) (hf : t.fits es.size = true) (hw : wanted < 64) (hle : es.size ≤ wanted)
    (k : ∀ es' t', es'.toList.Perm es.toList → t'.fits es'.size = true → t'.dummies = #[] → Cyc t'.mask → wanted ≤ t'.mask → (Led w t → Led w t') → Q () { s with heap := s.heap.update a (Obj.putSet es' t') }) : wpAny (model P w) A (setRelay a wanted) Q E s := by
  obtain ⟨M, eM, cM, h1, h2⟩ := size_cyc hw
  obtain ⟨t', order, e, hp, hs, hdm, hm, hri, hle2⟩ := laid_fits (m := M) (f := t.finger) (mv := t.movedTo M) (led := t.led) (plain := t.plain) (hs := es.map (·.1)) cM (by rw [Array.size_map]; omega)
  rw [Array.size_map] at hp hs
  have e2 : t.relaid (es.map (·.1)) wanted = some (t', order) := by
    unfold SetTable.relaid
    rw [eM]
    exact e
  have pm := order_perm hp
  have sz := perm_size pm
  rw [setRelay_eq]
  refine wpAny_bind (wpAny_setState_of ho hd hf ?_)
  dsimp only
  refine wp_if_neg (by rw [eM, sizeLine_eq]; omega) ?_
  try refine wpAny_bind (wpAny_pure ?_)
  rw [e2]
  dsimp only
  refine wpAny_bind ?_
  refine wp_if_neg (by rw [sz]; simp) ?_
  try refine wpAny_bind (wpAny_pure ?_)
  refine wpAny_pure ?_
  dsimp only
  refine wpAny_storeSet_of ho hd ?_ (by rw [sz, sizeLine_eq]; omega)
  refine k _ t' pm ?_ hdm (by rw [hm]; exact cM) (by rw [hm]; exact h1) (fun l => ⟨hri, l.2.imp id fun z => hle2.trans z⟩)
  unfold SetTable.fits SetTable.fill
  rw [hdm, hs, sz, hm, Bool.and_eq_true, beq_iff_eq, decide_eq_true_eq]
  exact ⟨rfl, by show es.size + 0 ≤ M; omega⟩
theorem room_of {a : Addr} {o : Obj} {es : Array (Int × Value)} {ep : Nat} {t : SetTable} {more : Nat} {Q : Unit → Shared → Prop} (ho : s.heap.get? a = some o) (hex : o.ExactSet) (hd : o.data = .set es ep t) (hf : t.fits es.size = true) (hw : es.size + more < 32)
    (k : ∀ h' o' es' ep' t', Heap.SameBut a s.heap h' → h'.get? a = some o' → o'.ExactSet → o'.data = .set es' ep' t' → es'.toList.Perm es.toList → t'.fits es'.size = true → (Cyc t.mask → Cyc t'.mask) → es.size + more ≤ t'.mask → (t.dummies = #[] → t'.dummies = #[]) → (Led w t → Led w t') → Q () { s with heap := h' }) : wpAny (model P w) A (setRoomFor a more) Q E s := by
  have hf2 := hf
  unfold SetTable.fits at hf2
  rw [Bool.and_eq_true, beq_iff_eq, decide_eq_true_eq] at hf2
  unfold setRoomFor
  refine wpAny_bind (wpAny_setState_of ho hd hf ?_)
  dsimp only
  unfold SetTable.roomFor
  by_cases c : (t.fill + more) * 5 ≥ t.mask * 3
  · rw [if_pos c]
    dsimp only
    refine relay_of ho hd hf (by rw [hf2.1]; omega) (by rw [hf2.1]; omega) fun es' t' pm ff hdm cy le ld => ?_
    have hg := Heap.get?_update_self (Obj.putSet es' t') ho (by rw [putSet_of es' t' hd]; rfl)
    rw [putSet_of es' t' hd] at hg
    exact k _ _ es' (ep + 1) t' (Heap.SameBut.update _ a _) hg hex rfl pm ff (fun _ => cy) (by rw [hf2.1] at le; omega) (fun _ => hdm) ld
  · rw [if_neg c]
    dsimp only
    have fl : es.size ≤ t.fill := by
      unfold SetTable.fill
      omega
    exact wpAny_pure (k s.heap o es ep t (Heap.SameBut.refl a s.heap) ho hex hd (List.Perm.refl _) hf id (by omega) id id)
theorem scan_ref {x : Value} (h : x.scannable = true) : ∀ b, x ≠ .ref b := fun b e => by
  rw [e] at h
  cases h
theorem walk_of {a : Addr} {o : Obj} {es : Array (Int × Value)} {ep : Nat} {t : SetTable} {Q : Array (Int × Value) → Shared → Prop} (ho : s.heap.get? a = some o) (hd : o.data = .set es ep t) (hf : t.fits es.size = true) (hq : w.params.followText "set-order" = true ∨ t.led = true ∨ es.size ≤ 1)
    (hn : w.params.followText "set-order" = true ∨ t.plain = true ∨ es.size ≤ 1) (k : ∀ es' : Array (Int × Value), es'.toList.Perm es.toList → Q es' s) : wpAny (model P w) A (setWalk a) Q E s := by
  unfold setWalk
  refine wpAny_bind (wpAny_setState_of ho hd hf ?_)
  dsimp only
  refine wpAny_bind (wpAny_byText ?_)
  by_cases bt : w.params.followText "set-order" = true
  · refine wp_if_pos bt ?_
    exact wpAny_bind (wpAny_askSetting (wpAny_pure (k _ (pick_perm _ _))))
  refine wp_if_neg bt ?_
  have hq2 := hq.resolve_left bt
  have hn2 := hn.resolve_left bt
  refine wp_if_neg (fun h => ?_) ?_
  · have h' : (!t.plain && decide (es.size > 1)) = true := h
    simp only [Bool.and_eq_true, Bool.not_eq_true', decide_eq_true_eq] at h'
    rcases hn2 with z | z
    · rw [z] at h'
      exact absurd h'.1 (fun e => nomatch e)
    · omega
  refine wpAny_bind ?_
  show wpAny _ _ (if (!t.led && decide (es.size > 1)) = true then unsupported "set:maker-not-led" else pure ()) _ _ _
  refine wp_if_neg (fun h' => ?_) (wpAny_pure (wpAny_pure (k es (List.Perm.refl _))))
  simp only [Bool.and_eq_true, Bool.not_eq_true', decide_eq_true_eq] at h'
  rcases hq2 with z | z
  · rw [z] at h'
    exact absurd h'.1 (fun e => nomatch e)
  · omega
theorem quiet_of {sets : List Addr} {Q : Bool → Shared → Prop} (h : ∀ c ∈ sets, ∃ o es ep t, s.heap.get? c = some o ∧ o.data = .set es ep t ∧ t.fits es.size = true ∧ ∀ e ∈ es.toList, e.2.scannable = true) (k : Q true s) : wpAny (model P w) A (setsQuiet sets) Q E s := by
  unfold setsQuiet
  refine wpAny_bind (wpAny_forIn_list _ (fun rest b s' => b.1 = none ∧ s' = s ∧ ∃ pre, sets = pre ++ rest) _ ?turn ?fin _ _ ⟨rfl, rfl, [], rfl⟩)
  case turn =>
    rintro x rest ⟨b1, b2⟩ s1 ⟨_, e1, pre, hs⟩
    subst e1
    obtain ⟨o, es, ep, t, ho, hd, hf, hsc⟩ := h x (by rw [hs]; simp)
    refine wpAny_bind (wpAny_setEntries_of ho hd hf ?_)
    refine wpAny_bind (wpAny_forIn_array' _ (fun rest b s' => b.1 = none ∧ s' = s1 ∧ ∀ e ∈ rest, e.2.scannable = true) _ ?_ ?_ _ _ ⟨rfl, rfl, hsc⟩)
    · rintro ⟨h1, x1⟩ rest1 ⟨b1, b2⟩ s2 ⟨_, e2, hr⟩
      subst e2
      have hx : x1.scannable = true := hr _ List.mem_cons_self
      cases x1 with
      | ref b => cases hx
      | _ => exact wpAny_pure ⟨rfl, rfl, fun e he => hr e (List.mem_cons_of_mem _ he)⟩
    · rintro ⟨b1, b2⟩ s2 ⟨hb1, e2, _⟩
      subst e2
      have hb1 : b1 = none := hb1
      subst hb1
      exact wpAny_pure ⟨rfl, rfl, pre ++ [x], by rw [hs]; simp⟩
  case fin =>
    rintro ⟨b1, b2⟩ s1 ⟨hb1, e1, _⟩
    subst e1
    have hb1 : b1 = none := hb1
    subst hb1
    exact wpAny_pure k
theorem unseen_of {a b : Addr} {o : Obj} {es : Array (Int × Value)} {ep : Nat} {t : SetTable} {S : K → Bool} {n : Nat} {Q : Array (Int × Value) → Shared → Prop} (ho : s.heap.get? a = some o) (hd : o.data = .set es ep t) (hf : t.fits es.size = true) (hsc : ∀ e ∈ es.toList, e.2.scannable = true) (lt : Led w t)
    (hb : SetT knd s.heap b S n) (k : ∀ es' h', es'.toList.Perm es.toList → Heap.SameBut b s.heap h' → SetT knd h' b S n → Q es' { s with heap := h' }) : wpAny (model P w) A (setWalkUnseen a [b] (some b)) Q E s := by
  have hb0 := hb
  obtain ⟨ob, eb, epb, tb, hob, hexb, hdb, helb, hmemb, hbb, hfb, hnb, ldb, ub⟩ := hb
  unfold setWalkUnseen
  refine wpAny_bind (wpAny_setState_of ho hd hf ?_)
  dsimp only
  refine wpAny_bind (wpAny_byText ?_)
  have done : ∀ es' : Array (Int × Value), es'.toList.Perm es.toList → Q es' s := fun es' pm => k es' s.heap pm (Heap.SameBut.refl b s.heap) hb0
  by_cases c : (w.params.followText "set-order" || (t.led && t.plain) || decide (es.size ≤ 1)) = true
  · refine wp_if_pos c ?_
    have c2 := c
    simp only [Bool.or_eq_true, Bool.and_eq_true, decide_eq_true_eq] at c2
    refine walk_of ho hd hf ?_ ?_ fun es' pm => done es' pm
    · rcases c2 with (z | z) | z
      · exact .inl z
      · exact .inr (.inl z.1)
      · exact .inr (.inr z)
    · rcases c2 with (z | z) | z
      · exact .inl z
      · exact .inr (.inl z.2)
      · exact .inr (.inr z)
  refine wp_if_neg c ?_
  try refine wpAny_bind (wpAny_pure ?_)
  refine wpAny_bind (quiet_of (fun x hx => ?_) ?_)
  · rcases List.mem_cons.mp hx with e | hx
    · rw [e]
      exact ⟨o, es, ep, t, ho, hd, hf, hsc⟩
    · rw [List.mem_singleton.mp hx]
      exact ⟨ob, eb, epb, tb, hob, hdb, hfb, fun e he => (helb e he).2⟩
  refine wp_if_neg (by decide) ?_
  refine wpAny_bind (wpAny_rule ?_)
  refine wpAny_bind (wpAny_setState_of hob hdb hfb ?_)
  dsimp only
  by_cases c2 : ((tb.led && !t.led) || (tb.plain && !t.plain)) = true
  · refine wp_if_pos c2 ?_
    refine wpAny_bind (wpAny_storeSet_of hob hdb ?_ (fits_of_scanBound hbb))
    have hS : SetT knd (s.heap.update b (Obj.putSet eb { tb with led := tb.led && t.led, plain := tb.plain && t.plain })) b S n := ⟨_, eb, _, _, set_put hob hdb eb { tb with led := tb.led && t.led, plain := tb.plain && t.plain }, hexb, rfl, helb, hmemb, hbb, hfb, hnb, ⟨ldb.1, led_and ldb.2 lt.2⟩, ub⟩
    exact wpAny_pure (k es _ (List.Perm.refl _) (Heap.SameBut.update _ b _) hS)
  · refine wp_if_neg c2 ?_
    exact wpAny_pure (done es (List.Perm.refl _))
theorem holding_of {α : Type} {xs : List Value} {m : Sem α} {Q : α → Shared → Prop} (h : wpAny (model P w) A m Q E s) : wpAny (model P w) A (holding xs m) Q E s := wpAny_holding h
theorem merge_more {a b : Addr} (ne : b ≠ a) {Sa Sb : K → Bool} {na nb : Nat} {each : Sem Unit} {Q : Unit → Shared → Prop} (ha : SetT knd s.heap a Sa na) (hb : SetT knd s.heap b Sb nb) (pos : 0 < nb) (few : nb + na < 32)
    (heach : ∀ (h' : Heap) (R : Unit → Shared → Prop), Heap.SameBut b s.heap h' → R () { s with heap := h' } → wpAny (model P w) A each R E { s with heap := h' })
    (k : ∀ h' n, Heap.SameBut b s.heap h' → SetT knd h' b (fun x => Sb x || Sa x) n → n ≤ nb + na → Q () { s with heap := h' }) : wpAny (model P w) A (setMerge b a each) Q E s := by
  have hb0 := hb
  obtain ⟨o, es, ep, t, ho, hex, hd, hel, hmem, hbd, hf, hn, lda, ua⟩ := ha
  obtain ⟨ob, eb, epb, tb, hob, hexb, hdb, helb, hmemb, hbb, hfb, hnb, ldb, ub⟩ := hb
  unfold setMerge
  refine wp_if_neg (by simpa using ne) ?_
  try refine wpAny_bind (wpAny_pure ?_)
  refine wpAny_bind (wpAny_setState_of ho hd hf ?_)
  dsimp only
  by_cases c : es.isEmpty = true
  · refine wp_if_pos c ?_
    have e0 : es.toList = [] := by
      have : es = #[] := by simpa using c
      rw [this]
    have eq : (fun x => Sb x || Sa x) = Sb := funext fun x => by
      cases z : Sa x with
      | false => exact Bool.or_false _
      | true =>
        obtain ⟨e, he, _⟩ := (hmem x).mp z
        rw [e0] at he
        cases he
    exact wpAny_pure (k s.heap nb (Heap.SameBut.refl b s.heap) (by rw [eq]; exact hb0) (by omega))
  refine wp_if_neg c ?_
  try refine wpAny_bind (wpAny_pure ?_)
  refine wpAny_bind (room_of hob hexb hdb hfb (by omega) fun h1 o1 es1 ep1 t1 sb1 g1 x1 d1 pm1 f1 cy1 le1 _ ld1 => ?_)
  have hB1 : SetT knd h1 b Sb nb := ⟨o1, es1, ep1, t1, g1, x1, d1, helb.perm pm1, fun x => (hmemb x).trans ⟨fun ⟨e, he, q⟩ => ⟨e, pm1.mem_iff.mpr he, q⟩, fun ⟨e, he, q⟩ => ⟨e, pm1.mem_iff.mp he, q⟩⟩, by rw [perm_size pm1]; exact hbb, f1, by rw [perm_size pm1]; exact hnb, ld1 ldb, (uq_perm pm1).mpr ub⟩
  refine wpAny_bind (wpAny_setState_of (s := { s with heap := h1 }) g1 d1 f1 ?_)
  dsimp only
  have fl : t1.fill ≠ 0 := by
    unfold SetTable.fits at f1
    rw [Bool.and_eq_true, beq_iff_eq] at f1
    have := perm_size pm1
    unfold SetTable.fill
    omega
  have rd : t1.road t = .oneByOne := by
    unfold SetTable.road
    rw [if_pos (by simpa using fl)]
  rw [rd]
  dsimp only
  have ga : h1.get? a = some o := (sb1.2 a ne.symm).trans ho
  refine wpAny_bind (unseen_of (s := { s with heap := h1 }) (knd := knd) ga hd hf (fun e he => (hel e he).2) lda hB1 fun es2 h2 pm2 sb2 hB2 => ?_)
  dsimp only
  have hel2 := hel.perm pm2
  have gk : ∀ h', Heap.SameBut b s.heap h' → h'.get? a = some o := fun h' sb => (sb.2 a ne.symm).trans ho
  have sz2 := perm_size pm2
  refine wpAny_bind (wpAny_forIn_array' _ (fun rest _ s' => ∃ pre h' m, es2.toList = pre ++ rest ∧ s' = { s with heap := h' } ∧ Heap.SameBut b s.heap h' ∧ SetT knd h' b (fun x => Sb x || pre.any fun e => knd.is x e.2) m ∧ m ≤ nb + pre.length) _ ?_ ?_ _ _ ⟨[], h2, nb, rfl, rfl, sb1.trans sb2, ?_, Nat.le_refl _⟩)
  · rintro ⟨hh, x⟩ rest u s' ⟨pre, h', m, eq, es', sb, hS, hm⟩
    subst es'
    obtain ⟨⟨kk, hk, ehh⟩, hsc⟩ := hel2 (hh, x) (by rw [eq]; simp)
    have ehh : hh = knd.hash kk := ehh
    subst ehh
    have len : pre.length + rest.length + 1 = es2.size := by
      rw [← Array.length_toList, eq, List.length_append, List.length_cons]
      omega
    refine wpAny_bind (wpAny_holding (add_T (s := { s with heap := h' }) (knd := knd) hk hsc hS (by unfold scanBound; omega) fun h'' sbb hS2 => ?_))
    have sb3 := sb.trans sbb
    refine wpAny_bind (heach h'' _ sb3 ?_)
    refine wpAny_bind (wpAny_setState_of (s := { s with heap := h'' }) (gk h'' sb3) hd hf ?_)
    dsimp only
    refine wp_if_neg (by simp) ?_
    refine wpAny_pure ⟨pre ++ [(knd.hash kk, x)], h'', (if (Sb kk || pre.any fun e => knd.is kk e.2) = true then m else m + 1), by rw [eq, List.append_assoc]; rfl, rfl, sb3, ?_, ?_⟩
    · have eS : (fun y => Sb y || (pre ++ [(knd.hash kk, x)]).any fun e => knd.is y e.2) = fun y => (Sb y || pre.any fun e => knd.is y e.2) || decide (y = kk) := funext fun y => by
        rw [List.any_append, List.any_cons, List.any_nil, Bool.or_false, ← Bool.or_assoc, KeyKind.is_eq_decide hk y]
      rw [eS]
      exact hS2
    · rw [List.length_append, List.length_singleton]
      split <;> omega
  · rintro u s' ⟨pre, h', m, eq, es', sb, hS, hm⟩
    subst es'
    rw [List.append_nil] at eq
    have eS : (fun y => Sb y || pre.any fun e => knd.is y e.2) = fun y => Sb y || Sa y := funext fun y => by
      congr 1
      rw [Bool.eq_iff_iff, List.any_eq_true, hmem y]
      exact ⟨fun ⟨e, he, q⟩ => ⟨e, pm2.mem_iff.mp (by rw [eq]; exact he), q⟩, fun ⟨e, he, q⟩ => ⟨e, by rw [← eq]; exact pm2.mem_iff.mpr he, q⟩⟩
    rw [eS] at hS
    have ln : pre.length = na := by rw [← eq, Array.length_toList, sz2, hn]
    exact wpAny_pure (k h' m sb hS (by omega))
  · have eS : (fun y => Sb y || ([] : List (Int × Value)).any fun e => knd.is y e.2) = Sb := funext fun y => Bool.or_false _
    rw [eS]
    exact hB2
/-- a set with nothing in it, as a new one is -/
def Bare (w : World) (h : Heap) (b : Addr) : Prop := ∃ o ep t, h.get? b = some o ∧ o.ExactSet ∧ o.data = .set #[] ep t ∧ t.place = #[] ∧ t.dummies = #[] ∧ Cyc t.mask ∧ Led w t
theorem merge_bare {a b : Addr} (ne : b ≠ a) {Sa : K → Bool} {na : Nat} {each : Sem Unit} {Q : Unit → Shared → Prop} (ha : SetT knd s.heap a Sa na) (hb : Bare w s.heap b) (few : na < 32)
    (k : ∀ h', Heap.SameBut b s.heap h' → (SetT knd h' b Sa na) → (na = 0 → Bare w h' b) → Q () { s with heap := h' }) : wpAny (model P w) A (setMerge b a each) Q E s := by
  have hb0 := hb
  obtain ⟨o, es, ep, t, ho, hex, hd, hel, hmem, hbd, hf, hn, lda, ua⟩ := ha
  obtain ⟨ob, epb, tb, hob, hexb, hdb, hpl, hdu, hcy, ldb⟩ := hb
  have hfb : tb.fits (#[] : Array (Int × Value)).size = true := by
    unfold SetTable.fits SetTable.fill
    rw [hpl, hdu]
    simp
  unfold setMerge
  refine wp_if_neg (by simpa using ne) ?_
  try refine wpAny_bind (wpAny_pure ?_)
  refine wpAny_bind (wpAny_setState_of ho hd hf ?_)
  dsimp only
  by_cases c : es.isEmpty = true
  · refine wp_if_pos c ?_
    have e1 : es = #[] := by simpa using c
    subst e1
    have e0 : na = 0 := by rw [← hn]; rfl
    exact wpAny_pure (k s.heap (Heap.SameBut.refl b s.heap) ⟨ob, #[], epb, tb, hob, hexb, hdb, hel, hmem, hbd, hfb, hn, ldb, ua⟩ fun _ => hb0)
  refine wp_if_neg c ?_
  try refine wpAny_bind (wpAny_pure ?_)
  have npos : na ≠ 0 := fun z => c (by
    have : es.size = 0 := by rw [hn, z]
    simpa using this)
  refine wpAny_bind (room_of hob hexb hdb hfb (by show 0 + es.size < 32; omega) fun h1 o1 es1 ep1 t1 sb1 g1 x1 d1 pm1 f1 cy1 le1 dm1 ld1 => ?_)
  have e1 : es1 = #[] := by
    have := perm_size pm1
    have z : es1.size = 0 := this
    simpa using z
  subst e1
  refine wpAny_bind (wpAny_setState_of (s := { s with heap := h1 }) g1 d1 f1 ?_)
  dsimp only
  have fl : t1.fill = 0 := by
    have f2 := f1
    unfold SetTable.fits at f2
    rw [Bool.and_eq_true, beq_iff_eq] at f2
    have z : t1.place.size = 0 := f2.1
    unfold SetTable.fill
    rw [z, dm1 hdu]
    rfl
  have le2 : es.size ≤ t1.mask := by
    have : 0 + es.size ≤ t1.mask := le1
    omega
  by_cases q : (t1.mask == t.mask && t.dummies.isEmpty) = true
  · have rd : t1.road t = .slotForSlot := by
      unfold SetTable.road
      rw [if_neg (by rw [fl]; decide), if_pos q]
    rw [rd]
    dsimp only
    have hf2 : ({ t with finger := t1.finger, led := t1.led && t.led, moves := t1.moves, plain := t1.plain && t.plain } : SetTable).fits es.size = true := hf
    refine wpAny_storeSet_of (s := { s with heap := h1 }) g1 d1 ?_ (fits_of_scanBound hbd)
    have hS : SetT knd (h1.update b (Obj.putSet es { t with finger := t1.finger, led := t1.led && t.led, moves := t1.moves, plain := t1.plain && t.plain })) b Sa na := ⟨_, es, _, _, set_put g1 d1 es { t with finger := t1.finger, led := t1.led && t.led, moves := t1.moves, plain := t1.plain && t.plain }, x1, rfl, hel, hmem, hbd, hf2, hn, ⟨lda.1, led_and (ld1 ldb).2 lda.2⟩, ua⟩
    exact k _ (sb1.trans (Heap.SameBut.update _ b _)) hS fun z => absurd z npos
  · have rd : t1.road t = .clean := by
      unfold SetTable.road
      rw [if_neg (by rw [fl]; decide), if_neg q]
    rw [rd]
    dsimp only
    obtain ⟨t', order, e, hp, hs, hdm, hm, hri, hle2⟩ := laid_fits (m := t1.mask) (f := t1.finger) (mv := t1.moves) (led := t1.led && t.led) (plain := t1.plain && t.plain) (hs := es.map (·.1)) (cy1 hcy) (by rw [Array.size_map]; exact le2)
    rw [Array.size_map] at hp hs
    have pm := order_perm hp
    have sz := perm_size pm
    rw [e]
    refine wpAny_bind ?_
    show wpAny _ _ (if ((order.filterMap (es[·]?)).size != es.size) = true then unsupported "internal:set-table-lost-an-element" else pure (order.filterMap (es[·]?), t')) _ _ _
    refine wp_if_neg (by rw [sz]; simp) (wpAny_pure ?_)
    dsimp only
    have hf2 : t'.fits (order.filterMap (es[·]?)).size = true := by
      unfold SetTable.fits SetTable.fill
      rw [hdm, hs, sz, hm, Bool.and_eq_true, beq_iff_eq, decide_eq_true_eq]
      exact ⟨rfl, by show es.size + 0 ≤ t1.mask; omega⟩
    refine wpAny_storeSet_of (s := { s with heap := h1 }) g1 d1 ?_ (by rw [sz]; exact fits_of_scanBound hbd)
    have hS : SetT knd (h1.update b (Obj.putSet (order.filterMap (es[·]?)) t')) b Sa na := ⟨_, order.filterMap (es[·]?), _, _, set_put g1 d1 (order.filterMap (es[·]?)) t', x1, rfl, hel.perm pm, fun x => (hmem x).trans ⟨fun ⟨e, he, q⟩ => ⟨e, pm.mem_iff.mpr he, q⟩, fun ⟨e, he, q⟩ => ⟨e, pm.mem_iff.mp he, q⟩⟩, by rw [sz]; exact hbd, hf2, sz.trans hn, ⟨hri, by rw [hle2]; exact led_and (ld1 ldb).2 lda.2⟩, (uq_perm pm).mpr ua⟩
    exact k _ (sb1.trans (Heap.SameBut.update _ b _)) hS fun z => absurd z npos
end

/-! ### a | b, both sets -/
section
open TS PySem.Spec PyProof.Rows
variable {P : Program} {w : World} {A : Around} {E : Value → Shared → Prop} {s : Shared} {K : Type} [DecidableEq K] {knd : KeyKind P w K}
theorem setOf_keep {h h' : Heap} {a : Addr} {S : K → Bool} {n : Nat} (R : SetT knd h a S n) (k : ∀ o, h.get? a = some o → h'.get? a = some o) : SetT knd h' a S n := by
  obtain ⟨o, es, ep, t, ho, r⟩ := R
  exact ⟨o, es, ep, t, k o ho, r⟩
abbrev nSetL (led : Bool) : Obj := { cls := .type "set", dict := none, data := .set #[] 0 (.fresh 0 0 led) }
theorem bare_new {h : Heap} {led : Bool} (hl : w.params.followText "set-order" = true ∨ led = true) : Bare w (h.push (nSetL led)) h.objs.size := ⟨_, 0, _, Heap.get?_push_size _ rfl, ⟨rfl, rfl, rfl⟩, rfl, rfl, rfl, cyc7, List.Pairwise.nil, hl⟩
theorem newSet_of {Q : Value → Shared → Prop} (k : ∀ led : Bool, (w.params.followText "set-order" = true ∨ led = true) → Q (.ref s.heap.objs.size) { s with heap := s.heap.push (nSetL led) }) : wpAny (model P w) A (newSet (.type "set")) Q E s := by
  unfold newSet setsByText
  refine wpAny_bind (wpAny_bind (wpAny_askSetting (wpAny_pure ?_)))
  dsimp only
  simp only [newObj]
  exact wpAny_bind (wpAny_alloc (wpAny_pure (k _ (by show w.params.followText "set-order" = true ∨ (!w.params.followText "set-order") = true; cases w.params.followText "set-order" <;> simp))))
theorem copy_of {a : Addr} {Sa : K → Bool} {na : Nat} {Q : Value → Shared → Prop} (ha : SetT knd s.heap a Sa na) (few : na < 32)
    (k : ∀ h', (∀ b o, s.heap.get? b = some o → h'.get? b = some o) → h'.objs.size = s.heap.objs.size + 1 → SetT knd h' s.heap.objs.size Sa na → (na = 0 → Bare w h' s.heap.objs.size) → Q (.ref s.heap.objs.size) { s with heap := h' }) : wpAny (model P w) A (Builtin.Frozenset.copyOf a) Q E s := by
  have ty : s.TypeIs (.ref a) "set" := ha.of.typeIs
  obtain ⟨o, es, ep, t, ho, _⟩ := id ha
  have lo : a < s.heap.objs.size := Heap.lt_size ho
  unfold Builtin.Frozenset.copyOf Builtin.Frozenset.baseOf
  refine wpAny_bind (wpAny_bind (wpAny_isInstance ty sub_set_self (wpAny_pure ?_)))
  rw [if_pos rfl]
  refine wpAny_bind (newSet_of fun led hl => ?_)
  refine wpAny_bind (wpAny_pure ?_)
  have up : ∀ b o, s.heap.get? b = some o → (s.heap.push (nSetL led)).get? b = some o := fun b o e => Heap.get?_push_of_some _ e
  refine wpAny_bind (merge_bare (s := { s with heap := s.heap.push (nSetL led) }) (knd := knd) (Nat.ne_of_gt lo) (setOf_keep ha (up a)) (bare_new hl) few fun h' sb hS hb => ?_)
  refine wpAny_pure (k h' (fun b o e => ?_) (by rw [sb.1]; exact Heap.size_push ..) hS hb)
  rw [sb.2 b (Nat.ne_of_lt (Heap.lt_size e))]
  exact up b o e
theorem anySet_of {v : Value} {Q : Bool → Shared → Prop} (ty : s.TypeIs v "set") (k : Q true s) : wpAny (model P w) A (Builtin.Frozenset.isAnySet v) Q E s := by
  unfold Builtin.Frozenset.isAnySet
  show wpAny _ _ (isInstance v (.type "set") >>= _) _ _ _
  exact wpAny_bind (wpAny_isInstance ty sub_set_self (wpAny_pure k))
theorem or_body {a b : Addr} (ne : a ≠ b) {Sa Sb : K → Bool} {na nb : Nat} {Q : PySem.Fin → Shared → Prop} (ha : SetT knd s.heap a Sa na) (hb : SetT knd s.heap b Sb nb) (few : na + nb < 32)
    (k : ∀ h' n, (∀ b o, s.heap.get? b = some o → h'.get? b = some o) → SetT knd h' s.heap.objs.size (fun x => Sa x || Sb x) n → n ≤ na + nb → Q (.done (.ret (.ref s.heap.objs.size))) { s with heap := h' }) : wpAny (model P w) A (Builtin.«frozenset.__or__» ⟨[.ref a, .ref b], []⟩) Q E s := by
  have tya : s.TypeIs (.ref a) "set" := ha.of.typeIs
  have tyb : s.TypeIs (.ref b) "set" := hb.of.typeIs
  unfold Builtin.«frozenset.__or__»
  show wpAny _ _ (Builtin.Frozenset.slot1 "__or__" ⟨[.ref a, .ref b], []⟩ >>= _) _ _ _
  refine wpAny_bind ?_
  show wpAny _ _ (pure (Value.ref a, Value.ref b)) _ _ _
  refine wpAny_pure ?_
  dsimp only
  simp only [Bool.false_eq_true, if_false]
  refine wpAny_bind ?_
  show wpAny _ _ (Builtin.Frozenset.isAnySet (.ref a) >>= _) _ _ _
  refine wpAny_bind (anySet_of tya (anySet_of tyb ?_))
  refine wp_if_neg (by decide) ?_
  refine wpAny_bind (wpAny_pure ?_)
  refine wpAny_bind ?_
  show wpAny _ _ (Builtin.Frozenset.copyOf a >>= _) _ _ _
  refine wpAny_bind (copy_of (knd := knd) ha (by omega) fun h1 up1 sz1 hS1 hB1 => ?_)
  dsimp only
  refine wp_if_pos (by simpa using fun e : b = a => ne e.symm) ?_
  refine wpAny_bind (wpAny_pure ?_)
  have hb1 : SetT knd h1 b Sb nb := setOf_keep hb (up1 b)
  have lob : b < s.heap.objs.size := by
    obtain ⟨o, es, ep, t, ho, _⟩ := id hb
    exact Heap.lt_size ho
  have neb : s.heap.objs.size ≠ b := Nat.ne_of_gt lob
  have fin : ∀ h' n, Heap.SameBut s.heap.objs.size h1 h' → SetT knd h' s.heap.objs.size (fun x => Sa x || Sb x) n → n ≤ na + nb → wpAny (model P w) A (ret (Value.ref s.heap.objs.size)) Q E { s with heap := h' } := fun h' n sb hS hn =>
    wpAny_pure (k h' n (fun c o e => by rw [sb.2 c (Nat.ne_of_lt (Heap.lt_size e))]; exact up1 c o e) hS hn)
  refine wpAny_bind (wpAny_holding ?_)
  unfold Builtin.Frozenset.updateFrom
  refine wpAny_bind (anySet_of (s := { s with heap := h1 }) hb1.of.typeIs ?_)
  refine wp_if_pos rfl ?_
  refine wpAny_bind (wpAny_pure ?_)
  unfold Builtin.Frozenset.merge
  obtain ⟨o, es, ep, t, ho, hex, hd, hel, hmem, hbd, hf, hn, _⟩ := id hb1
  refine wpAny_bind (wpAny_setEpoch_of (s := { s with heap := h1 }) ho hd hf ?_)
  by_cases z : na = 0
  · refine merge_bare (s := { s with heap := h1 }) (knd := knd) neb hb1 (hB1 z) (by omega) fun h' sb hS _ => ?_
    have eS : (fun x => Sa x || Sb x) = Sb := funext fun x => by
      obtain ⟨o0, es0, _, _, _, _, _, _, hm0, _, _, hn0, _⟩ := ha
      cases q : Sa x with
      | false => exact Bool.false_or _
      | true =>
        obtain ⟨e, he, _⟩ := (hm0 x).mp q
        have : es0 = #[] := by
          have : es0.size = 0 := by omega
          simpa using this
        rw [this] at he
        cases he
    exact wpAny_pure (fin h' nb sb (by rw [eS]; exact hS) (by omega))
  · refine merge_more (s := { s with heap := h1 }) (knd := knd) neb hb1 hS1 (by omega) (by omega) (fun h' R sb q => ?_) fun h' n sb hS hn => ?_
    · unfold Builtin.Frozenset.unchanged
      refine wpAny_bind (wpAny_setEpoch_of (s := { s with heap := h' }) ((sb.2 b neb.symm).trans ho) hd hf ?_)
      exact wp_if_neg (by simp) (wpAny_pure q)
    · exact wpAny_pure (fin h' n sb hS (by omega))
theorem entry_set_or : entryFor table "set.__or__" = some Builtin.«frozenset.__or__» :=
  entryFor_alias (id' := "frozenset.__or__") (by kernel_rfl) rfl (by decide +kernel) (by kernel_rfl)
theorem or_sets {a b : Addr} (ne : a ≠ b) {Sa Sb : K → Bool} {na nb : Nat} {Q : Value → Shared → Prop} (ha : SetT knd s.heap a Sa na) (hb : SetT knd s.heap b Sb nb) (few : na + nb < 32)
    (k : ∀ h' n, (∀ b o, s.heap.get? b = some o → h'.get? b = some o) → SetT knd h' s.heap.objs.size (fun x => Sa x || Sb x) n → n ≤ na + nb → Q (.ref s.heap.objs.size) { s with heap := h' }) : wpAny (model P w) A (binaryOp .BitOr (.ref a) (.ref b)) Q E s :=
  wpAny_binaryOp_same ha.of.typeIs hb.of.typeIs F.fills_set_or F.slot_set_or (wpAny_call_entry F.slot_set_or ha.of.typeIs entry_set_or (or_body ne ha hb few fun h' n up hS hn => ⟨_, rfl, fun e => (by cases e), k h' n up hS hn⟩) (F.args_set_or_2 _ _))
end

/-! ### set(d), d a dict -/
section
open TS PySem.Spec PyProof.Rows
variable {P : Program} {w : World} {A : Around} {E : Value → Shared → Prop} {s : Shared}
theorem from_dict {nm : String} {d r : Addr} {kvs : List (Key × Value)} {ep : Nat} {Q : Unit → Shared → Prop} (hd : s.heap.DictAt (mixKind P w) d kvs ep) (lo : (d == sysModules) = false) (hr : Bare w s.heap r) (ne : r ≠ d) (few : kvs.length < 32)
    (k : ∀ h', Heap.SameBut r s.heap h' → SetT (mixKind P w) h' r (fun x => kvs.any fun kv => decide (kv.1 = x)) kvs.length → Q () { s with heap := h' }) : wpAny (model P w) A (Builtin.Frozenset.updateFrom nm r (.ref d)) Q E s := by
  have nd := hd.nodup
  obtain ⟨o, es, ho, hex, hdd, hk, hp, _⟩ := hd
  have ty : s.TypeIs (.ref d) "dict" := ⟨o, ho, hex.1⟩
  obtain ⟨ob, epb, tb, hob, hexb, hdb, hpl, hdu, hcy, ldb⟩ := id hr
  unfold Builtin.Frozenset.updateFrom
  refine wpAny_bind ?_
  unfold Builtin.Frozenset.isAnySet
  show wpAny _ _ (isInstance (.ref d) (.type "set") >>= _) _ _ _
  refine wpAny_bind (wpAny_isInstance ty F.sub_dict_set ?_)
  show wpAny _ _ (isInstance (.ref d) (.type "frozenset")) _ _ _
  refine wpAny_isInstance ty F.sub_dict_frozenset ?_
  refine wp_if_neg (by decide) ?_
  try refine wpAny_bind (wpAny_pure ?_)
  refine wpAny_bind (wpAny_typeOf ty ?_)
  refine wp_if_pos (by decide) ?_
  refine wpAny_bind (wpAny_rule ?_)
  refine wpAny_bind (wpAny_pure ?_)
  refine wp_if_neg (by rw [lo]; decide) ?_
  try refine wpAny_bind (wpAny_pure ?_)
  refine wpAny_bind (wpAny_dictEpoch ho hdd ?_)
  refine wpAny_bind (wpAny_dictEntries ho hdd ?_)
  have sz : es.size = kvs.length := by
    rw [← Array.length_toList]
    exact hp.length
  have hfb : tb.fits (#[] : Array (Int × Value)).size = true := by
    unfold SetTable.fits SetTable.fill
    rw [hpl, hdu]
    simp
  refine wpAny_bind (room_of hob hexb hdb hfb (by show 0 + es.size < 32; omega) fun h1 o1 es1 ep1 t1 sb1 g1 x1 d1 pm1 f1 _ _ _ ld1 => ?_)
  have e1 : es1 = #[] := by
    have z : es1.size = 0 := perm_size pm1
    simpa using z
  subst e1
  have hS1 : SetT (mixKind P w) h1 r (fun _ => false) 0 := ⟨o1, #[], ep1, t1, g1, x1, d1, fun e he => (by cases he), fun k => by simp, by decide, f1, rfl, ld1 ldb, List.Pairwise.nil⟩
  have gd : ∀ h', Heap.SameBut r s.heap h' → h'.get? d = some o := fun h' sb => (sb.2 d ne.symm).trans ho
  refine wpAny_bind (wpAny_dictEntries (s := { s with heap := h1 }) (gd h1 sb1) hdd ?_)
  refine wpAny_bind (TI.forIn_rng _ (fun rest _ s' => ∃ i h', rest = List.range' i (es.size - i) ∧ i ≤ es.size ∧ s' = { s with heap := h' } ∧ Heap.SameBut r s.heap h' ∧ SetT (mixKind P w) h' r (fun x => (kvs.take i).any fun kv => decide (kv.1 = x)) i) _ ?_ ?_ _ ⟨0, h1, by rw [Nat.sub_zero], Nat.zero_le _, rfl, sb1, hS1⟩)
  · rintro j rest u s' ⟨i, h', er, hi, es', sb, hS⟩
    subst es'
    have hlt : i < es.size := by
      by_cases z : i < es.size
      · exact z
      · rw [show es.size - i = 0 by omega] at er
        cases er
    obtain ⟨n, hn⟩ : ∃ n, es.size - i = n + 1 := ⟨es.size - i - 1, by omega⟩
    rw [hn, List.range'_succ] at er
    injection er with ej er
    subst ej
    refine wpAny_bind (wpAny_dictEntries (s := { s with heap := h' }) (gd h' sb) hdd ?_)
    rw [Array.getElem?_eq_getElem hlt]
    dsimp only
    obtain ⟨kk, hkk, ehh⟩ := hk es[j] (Array.getElem_mem hlt)
    have hlt2 : j < kvs.length := by omega
    obtain ⟨q1, _⟩ := hp.get? (i := j) (e := es[j]) (k := (kvs[j]).1) (v := (kvs[j]).2) (by rw [Array.getElem?_toList, Array.getElem?_eq_getElem hlt]) (List.getElem?_eq_getElem hlt2)
    have ek : kk = (kvs[j]).1 := (mixKind P w).inj _ _ _ hkk q1
    subst ek
    rw [ehh]
    have hsc : (es[j]).key.scannable = true := by
      rcases keyIs_shape (show keyIs _ (es[j]).key = true from q1) with ⟨i, t, _, e⟩ | ⟨x, t, _, e⟩
      · rw [e]; rfl
      · rw [e]; rfl
    refine wpAny_bind (wpAny_holding (add_T (s := { s with heap := h' }) (knd := mixKind P w) q1 hsc hS (by unfold scanBound; omega) fun h'' sbb hS2 => ?_))
    have sb3 := sb.trans sbb
    refine wpAny_bind (wpAny_dictEpoch (s := { s with heap := h'' }) (gd h'' sb3) hdd ?_)
    refine wp_if_neg (by simp) ?_
    have new : ((kvs.take j).any fun kv => decide (kv.1 = (kvs[j]).1)) = false := by
      rw [List.any_eq_false]
      intro kv hkv
      obtain ⟨i2, hi2, e2⟩ := List.mem_iff_getElem.mp hkv
      rw [List.length_take] at hi2
      rw [List.getElem_take] at e2
      simp only [decide_eq_true_eq]
      intro e3
      have h5 := (List.nodup_iff_pairwise_ne.mp nd)
      have := List.pairwise_iff_getElem.mp h5 i2 j (by rw [List.length_map]; omega) (by rw [List.length_map]; omega) (by omega)
      simp only [List.getElem_map] at this
      exact this (by rw [e2]; exact e3)
    refine wpAny_pure ⟨j + 1, h'', by rw [er, show es.size - (j + 1) = n by omega], hlt, rfl, sb3, ?_⟩
    rw [if_neg (by rw [new]; decide)] at hS2
    have eS : (fun x => (kvs.take (j + 1)).any fun kv => decide (kv.1 = x)) = fun x => ((kvs.take j).any fun kv => decide (kv.1 = x)) || decide (x = (kvs[j]).1) := funext fun x => by
      rw [List.take_succ, List.getElem?_eq_getElem hlt2, List.any_append]
      congr 1
      show (decide ((kvs[j]).1 = x) || false) = _
      rw [Bool.or_false]
      exact decide_eq_decide.mpr eq_comm
    rw [eS]
    exact hS2
  · rintro u s' ⟨i, h', er, hi, es', sb, hS⟩
    subst es'
    have ei : i = es.size := by
      by_cases z : i < es.size
      · obtain ⟨n, hn⟩ : ∃ n, es.size - i = n + 1 := ⟨es.size - i - 1, by omega⟩
        rw [hn, List.range'_succ] at er
        cases er
      · omega
    rw [ei, sz, List.take_length] at hS
    exact wpAny_pure (k h' sb hS)
end

/-! ### set(d), as it is called -/
section
open TS PySem.Spec PyProof.Rows
variable {P : Program} {w : World} {A : Around} {E : Value → Shared → Prop} {s : Shared}
def DSet (P : Program) (w : World) (s : Shared) (kvs : List (Key × Value)) (s2 : Shared) : Prop := ∃ h2, s2 = { s with heap := h2 } ∧ SetT (mixKind P w) h2 s.heap.objs.size (fun x => kvs.any fun kv => decide (kv.1 = x)) kvs.length ∧ ∀ b o, s.heap.get? b = some o → h2.get? b = some o
set_option maxRecDepth 100000 in
set_option maxHeartbeats 3200000 in
theorem call_set_dict {l : Addr} {kvs : List (Key × Value)} {ep : Nat} {Q : Value → Shared → Prop} (hl : s.heap.DictAt (mixKind P w) l kvs ep) (lo : (l == sysModules) = false) (few : kvs.length < 32)
    (k : ∀ s2, DSet P w s kvs s2 → Q (.ref s.heap.objs.size) s2) : wpAny (model P w) A (call (.type "set") [.ref l]) Q E s := by
  obtain ⟨mc, mt, hmro⟩ := F.called_set.mro
  have made := F.called_set.made
  have sub := F.called_set.sub
  have noT := F.called_set.notType
  have can := F.called_set.canCreate
  have tc := F.typeCall_set_1 (.ref l)
  refine wpAny_call (codeAny_of_tree ?_)
  show wpAny _ _ (callAny (.type "set") _) _ _ _
  refine wpAny_pure ⟨Code.quiet_builtin _ (by decide +kernel), codeAny_builtin F.entry_type_call ?_⟩
  rw [Around.under_plain (weight_type_call_type "set" [.ref l] []) rfl]
  repeat (any_goals (first | assumption | wp_step))
  refine codeAny_mono (code_set_led1 (.ref l) (E := E) (Q₁ := fun z s1 => z = .ref s.heap.objs.size ∧ s1 = { s with heap := sPush w s }) ⟨rfl, rfl⟩) fun r s1 hr => ?_
  cases r with
  | error e => exact hr
  | ok fl =>
    cases fl with
    | ret z =>
      obtain ⟨rfl, rfl⟩ := hr
      have at0 : (sPush w s).get? s.heap.objs.size = some (nSet w) := Heap.get?_push_size _ rfl
      have ty0 : Shared.TypeIs { s with heap := sPush w s } (.ref s.heap.objs.size) "set" := ⟨_, at0, rfl⟩
      have look := F.called_set.init.lookup
      have bind := F.called_set.init.bind (.ref s.heap.objs.size)
      repeat (any_goals (first | assumption | wp_step))
      refine codeAny_mono (codeAny_call_builtin (R := wants (fun r s2 => r = .none ∧ DSet P w s kvs s2) E) F.called_set.init.plain F.entry_set_init (check_set_init_1 ty0 ?_)) fun r2 s2 hr2 => ?_
      · have there := fun {b : Addr} {o : Obj} (e : s.heap.get? b = some o) => (Heap.get?_push_of_some (nSet w) e : (sPush w s).get? b = some o)
        have low : l < s.heap.objs.size := hl.lt_size
        have d1 : (sPush w s).DictAt (mixKind P w) l kvs ep := hl.keep fun b o e => there e
        have b1 : Bare w (sPush w s) s.heap.objs.size := bare_new (by cases w.params.followText "set-order" <;> simp)
        unfold Builtin.«set.__init__» noKeywords
        generalize hU : Builtin.Frozenset.updateFrom = UF
        wp_walk
        subst hU
        refine from_dict (s := { s with heap := sPush w s }) d1 lo b1 (Nat.ne_of_gt low) few fun h' sb hS => ?_
        refine wpAny_pure ⟨rfl, h', rfl, hS, fun b o e => ?_⟩
        rw [sb.2 b (Nat.ne_of_lt (Heap.lt_size e))]
        exact there e
      · cases r2 with
        | error e => exact hr2
        | ok fl2 =>
          cases fl2 with
          | ret r =>
            obtain ⟨rfl, hm⟩ := hr2
            have hm2 := hm
            obtain ⟨h2, rfl, _⟩ := hm2
            repeat (any_goals (first | assumption | wp_step))
            exact k _ hm
          | _ => exact hr2.elim
    | _ => exact hr.elim
end

/-! ### set(d), a | b: the readings -/
section
open PySem.Spec PyProof.Rows
/-- the set of keys at a, ready to be walked over -/
def SetKT (P : Program) (w : World) (a : Addr) (S : Key → Bool) (n : Nat) : HO := .ext fun h => SetT (mixKind P w) h a S n
theorem setKT_new {w : World} {P : Program} {H : Hp} {h : Heap} {a : Addr} {S : Key → Bool} {n : Nat} (R : SetT (mixKind P w) h a S n) : ObjOk P w H h a (SetKT P w a S n) := by
  have ⟨o, _, _, _, ho, _⟩ := R
  exact ⟨R, ⟨o, ho⟩, fun h1 h2 p k => SetT.keep p k⟩
theorem setKT_get {X : Cx} {pins : List (Addr × Obj)} {σ : L2.St} {H : Hp} {s : Shared} {a : Addr} {S : Key → Bool} {n : Nat} (I : Inv X pins σ H s) (ha : H a = some (SetKT X.prog X.w a S n)) : SetT (mixKind X.prog X.w) s.heap a S n := (I.hok a _ ha).1
def rSetD (P : Program) (w : World) : List V → Hp → VK → Prop := fun xs H Q => ∃ (a : Addr) (kvs : List (Key × V)), xs = [.ref a] ∧ Rd H a (.dK kvs) ∧ kvs.length < 32 ∧ ∀ p, H p = none → Q (.ref p) (upd H p (SetKT P w p (fun x => kvs.any fun kv => decide (kv.1 = x)) kvs.length))
theorem any_keys {α β : Type} {as : List (Key × α)} {bs : List (Key × β)} (h : as.map (·.1) = bs.map (·.1)) (x : Key) : (as.any fun kv => decide (kv.1 = x)) = bs.any fun kv => decide (kv.1 = x) := by
  have e : ∀ {γ : Type} (cs : List (Key × γ)), (cs.any fun kv => decide (kv.1 = x)) = (cs.map (·.1)).any fun k => decide (k = x) := fun cs => by
    rw [List.any_map]
    rfl
  rw [e, e, h]
theorem cr_setD {X : Cx} : CallR X (.type "set") (rSetD X.prog X.w) := by
  intro pins s σ H xs us Q I r ⟨a, kvs, ex, hd, few, q⟩
  subst ex
  rw [Vals.ref1 r]
  obtain ⟨z, lo, vs, rel, dd⟩ := dk_rd I.hok hd
  obtain ⟨ep, hat⟩ := dd.dictAt
  have hl : vs.length = kvs.length := rel.length.symm
  refine call_set_dict hat lo (by omega) fun s2 ⟨h2, e, hS, up⟩ => ?_
  subst e
  have eS : (fun x => vs.any fun kv => decide (kv.1 = x)) = fun x => kvs.any fun kv => decide (kv.1 = x) := funext fun x => any_keys rel.keys.symm x
  rw [eS, hl] at hS
  exact ⟨.ref s.heap.objs.size, upd H s.heap.objs.size (SetKT X.prog X.w s.heap.objs.size _ _), I.laid (t' := s.toks) up (Nat.le_refl _) (setKT_new hS), rfl, q _ (I.hok.fresh (Nat.le_refl _))⟩
def rOrK (P : Program) (w : World) : V → V → Hp → VK → Prop := fun x y H Q => ∃ (a b : Addr) (S R : Key → Bool) (n m : Nat), x = .ref a ∧ y = .ref b ∧ a ≠ b ∧ H a = some (SetKT P w a S n) ∧ H b = some (SetKT P w b R m) ∧ n + m < 32 ∧ ∀ p k, H p = none → k ≤ n + m → Q (.ref p) (upd H p (SetKT P w p (fun x => S x || R x) k))
theorem op_orK {X : Cx} : OpR X (binaryOp .BitOr) (rOrK X.prog X.w) := by
  intro pins s σ H x y u v Q I rx ry ⟨a, b, S, R, n, m, ex, ey, ne, ha, hb, few, q⟩
  subst ex ey
  cases rx
  cases ry
  refine or_sets ne (setKT_get I ha) (setKT_get I hb) few fun h' k up hS hk => ?_
  exact ⟨.ref s.heap.objs.size, upd H s.heap.objs.size (SetKT X.prog X.w s.heap.objs.size _ _), I.laid (t' := s.toks) up (Nat.le_refl _) (setKT_new hS), rfl, q _ _ (I.hok.fresh (Nat.le_refl _)) hk⟩
end

/-! ### sorted of a set of texts -/
section
open TS PySem.Spec PyProof.Rows
def txtOf : Value → Str
  | .str x _ => x
  | _ => Str.empty
theorem txts_are : ∀ {vs : List Value}, (∀ v ∈ vs, ∃ x t, v = Value.str x t) → StrsAre vs (vs.map txtOf)
  | [], _ => .nil
  | v :: vs, h => by
    obtain ⟨x, t, e⟩ := h v List.mem_cons_self
    subst e
    exact .cons x t (txts_are fun u hu => h u (List.mem_cons_of_mem _ hu))
def rSortedKT (P : Program) (w : World) : List V → Hp → VK → Prop := fun xs H Q => ∃ (a : Addr) (S : Key → Bool) (n : Nat), xs = [.ref a] ∧ H a = some (SetKT P w a S n) ∧ n < 64 ∧ (∀ k, S k = true → ∃ x, k = Sum.inr x) ∧
  ∀ (ys : List Str) p, sortedS ys = true → ys.Nodup → (∀ x, x ∈ ys ↔ S (.inr x) = true) → ys.length = n → H p = none → Q (.ref p) (upd H p (.lst (ys.map V.str)))
theorem cr_sortedKT {X : Cx} (hc : X.calm = true) : CallR X (.builtin "sorted") (rSortedKT X.prog X.w) := by
  intro pins s σ H xs us Q I r ⟨a, S, n, ex, ha, h64, txt, q⟩
  subst ex
  rw [Vals.ref1 r]
  obtain ⟨o, es, ep, t, ho, hex, hd, hel, hm, hb, hf, hn, ⟨hr, hl⟩, hu⟩ := setKT_get I ha
  refine Calls.call_function_entry kind_sorted plain_sorted entry_sorted (args_sorted1 _) ?_
  unfold Builtin.«sorted»
  refine wpAny_bind (m := checkCount "sorted" 1 1 _) (wpAny_pure ?_)
  refine wpAny_bind (collect_set (A := X.A.in1) (I.ok.hd hc) ⟨o, ho, hex.1, hd⟩ hf hb hr hl fun s1 vs k1 hz g1 o1 pm => ?_)
  have hvl : vs.length = n := by rw [pm.length_eq, List.length_map, Array.length_toList]; exact hn
  have ent : ∀ e ∈ es.toList, ∃ x t, e.2 = Value.str x t ∧ S (.inr x) = true := fun e he => by
    obtain ⟨⟨k, hk, _⟩, _⟩ := hel e he
    have hS := (hm k).mpr ⟨e, he, hk⟩
    obtain ⟨x, rfl⟩ := txt k hS
    rcases keyIs_shape (show keyIs (Sum.inr x) e.2 = true from hk) with ⟨i, t, ek, ev⟩ | ⟨z, t, ek, ev⟩
    · cases ek
    · cases ek
      exact ⟨_, t, ev, hS⟩
  have hS : StrsAre vs (vs.map txtOf) := txts_are fun v hv => by
    obtain ⟨e, he, e2⟩ := List.mem_map.mp (pm.mem_iff.mp hv)
    obtain ⟨x, t, ev, _⟩ := ent e he
    exact ⟨x, t, by rw [← e2]; exact ev⟩
  have isx : ∀ (x : Str) (t : Tok), (mixKind X.prog X.w).is (Sum.inr x) (Value.str x t) = true := fun x t => kV_is (k := .inr x) ⟨t, rfl⟩
  have pk : (vs.map txtOf).Perm (es.toList.map fun e => txtOf e.2) := by
    have z := pm.map txtOf
    rw [List.map_map] at z
    exact z
  have nd : (es.toList.map fun e => txtOf e.2).Nodup := by
    unfold List.Nodup
    rw [List.pairwise_map]
    refine List.Pairwise.imp_of_mem (fun {e f} he hf0 r2 eq => ?_) hu
    obtain ⟨x, t, ex, _⟩ := ent e he
    obtain ⟨y, u, ey, _⟩ := ent f hf0
    rw [ex, ey] at eq
    have eq : x = y := eq
    subst eq
    have z := r2 (.inr x) (by rw [ex]; exact isx x t)
    rw [ey, isx x u] at z
    cases z
  have mems : ∀ x, x ∈ (es.toList.map fun e => txtOf e.2) ↔ S (.inr x) = true := fun x => by
    constructor
    · intro z
      obtain ⟨e, he, ee⟩ := List.mem_map.mp z
      obtain ⟨y, t, ey, hy⟩ := ent e he
      rw [ey] at ee
      have ee : y = x := ee
      rw [← ee]
      exact hy
    · intro z
      obtain ⟨e, he, hk⟩ := (hm (.inr x)).mp z
      obtain ⟨y, t, ey, _⟩ := ent e he
      have hyx : (Sum.inr y : Key) = Sum.inr x := (mixKind X.prog X.w).inj e.2 _ _ (by rw [ey]; exact isx y t) hk
      exact List.mem_map.mpr ⟨e, he, by rw [ey]; exact Sum.inr.inj hyx⟩
  refine wpAny_bind (wpAny_newList ?_ (by rw [hvl, sizeLine_eq]; omega))
  have hoL : (s1.heap.push (seqObj "list" vs.toArray 0)).get? s1.heap.objs.size = some (seqObj "list" vs.toArray 0) := Heap.get?_push_size _ rfl
  refine wpAny_bind (wpAny_holding (wpAny_call_entry slot_list_sort ⟨_, hoL, rfl⟩ entry_list_sort
    (list_sort_treeK strKind_oneLt hoL hS.keysOf (fun v₁ v₂ rest e => keyKind_strs (by rw [← e]; exact hS)) (by rw [hvl]; exact h64) fun st' hp hs => ⟨_, rfl, ?_⟩) (args_list_sort _)))
  obtain ⟨ys, y1, y2, y3⟩ := sorted_out_str hS hp hs
  obtain ⟨c, hcc⟩ := sortedHeap_at (vs := vs) (out := (arrOf st').map (·.2)) hoL
  have pn := y2.trans pk
  have hlen : (ys.map V.str).length ≤ sizeLine := by rw [List.length_map, y2.length_eq, List.length_map, hvl, sizeLine_eq]; omega
  have hn2 : H s1.heap.objs.size = none := I.hok.fresh hz
  have k : ∀ b o, s.heap.get? b = some o → (sortedHeap (s1.heap.push (seqObj "list" vs.toArray 0)) s1.heap.objs.size vs ((arrOf st').map (·.2))).get? b = some o := fun b u e => by
    have z := k1 b u e
    have hlt := Heap.lt_size z
    rw [sortedHeap_old (Nat.ne_of_lt hlt) (by rw [size_push']; exact Nat.lt_succ_of_lt hlt)]
    exact Heap.get?_push_of_some _ z
  obtain ⟨h1, g2, d1, t1, os1⟩ := s1
  cases (g1 : g2 = s.gens)
  cases (o1 : os1 = s.os)
  have J : Inv X pins σ (upd H h1.objs.size (.lst (ys.map V.str))) { s with heap := sortedHeap (h1.push (seqObj "list" vs.toArray 0)) h1.objs.size vs ((arrOf st').map (·.2)), drawn := d1, toks := t1 } :=
    I.call (ch := []) (Un.laid k hz hn2) (I.hok.laid k hz ⟨hlen, _, c, vals_of_strs y1, by rw [Array.toArray_toList]; exact hcc⟩) I.bare (fun _ z => nomatch z)
  exact wpAny_pure ⟨_, rfl, .ref h1.objs.size, _, J, rfl, q ys _ y3 (pn.nodup_iff.mpr nd) (fun x => pn.mem_iff.trans (mems x)) (by rw [y2.length_eq, List.length_map, hvl]) hn2⟩
end

/-! ### sorted(set(a) | set(b)), a and b dicts of the store with texts as keys -/
section
variable [Bas] [Tabz]
local instance (priority := high) yoFamUn : Fam := famS
def dSortUn (f g : DF) : DF := fun ρ n Q => f ρ n fun x n1 => ∃ a kvs, x = .d (hnd a) ∧ n1.2 a = some (.dK kvs) ∧ ∃ ks : List Str, kvs.map (·.1) = ks.map Sum.inr ∧ ks.length < 32 ∧ g ρ n1 fun y n2 => ∃ b lvs, y = .d (hnd b) ∧ n2.2 b = some (.dK lvs) ∧ ∃ ls : List Str, lvs.map (·.1) = ls.map Sum.inr ∧ ks.length + ls.length < 32 ∧
  ∀ out : List Str, PyProof.Rows.sortedS out = true → out.Nodup → (∀ x, x ∈ out ↔ x ∈ ks ∨ x ∈ ls) → Q (.own (out.map PyData.str)) n2
theorem any_txt {α : Type} {kvs : List (Key × α)} {ks : List Str} (h : kvs.map (·.1) = ks.map Sum.inr) (k : Key) : (kvs.any fun kv => decide (kv.1 = k)) = true ↔ ∃ x ∈ ks, k = Sum.inr x := by
  rw [List.any_eq_true]
  constructor
  · rintro ⟨kv, h1, h2⟩
    have h3 : kv.1 ∈ kvs.map (·.1) := List.mem_map.mpr ⟨kv, h1, rfl⟩
    rw [h] at h3
    obtain ⟨x, hx, ex⟩ := List.mem_map.mp h3
    exact ⟨x, hx, by rw [← of_decide_eq_true h2, ex]⟩
  · rintro ⟨x, hx, rfl⟩
    have h3 : (Sum.inr x : Key) ∈ kvs.map (·.1) := by
      rw [h]
      exact List.mem_map.mpr ⟨x, hx, rfl⟩
    obtain ⟨kv, h4, h5⟩ := List.mem_map.mp h3
    exact ⟨kv, h4, decide_eq_true h5⟩
end
section
variable [Fam] [Tabz]
theorem hide_mono {r : DV} {v : V} {B B' : Addr → Prop} (h : ∀ b, B b → B' b) {b : Addr} : hide r v B b → hide r v B' b := by
  cases r <;> first | exact fun z => h b z | exact fun z => z.imp (h b) id
theorem av_less {c : EC} {n : Fam.S} {A A1 : Nat → Option Addr} (hs : ∀ i a, A i = some a → ∃ j, A1 j = some a) {b : Addr} : c.av n A b → c.av n A1 b := fun z => z.imp id fun ⟨i, e⟩ => hs i b e
theorem msk_less {B B' : Addr → Prop} (h : ∀ b, B b → B' b) {H : Hp} : Xt (msk B' H) (msk B H) := fun b o _ e => by
  obtain ⟨h1, h2⟩ := msk_some e
  rw [msk_out fun z => h1 (h b z)]
  exact h2
theorem FrV.lessA {c : EC} {A A1 : Nat → Option Addr} {n m : Fam.S} {H H' : Hp} {v : V} {r : DV} (hs : ∀ i a, A i = some a → ∃ j, A1 j = some a) (f : FrV c A1 n m H H' v r) : FrV c A n m H H' v r := ⟨f.1, c.Gx f.2 (msk_less fun b => hide_mono fun b => av_less hs)⟩
theorem VOk.lessO {t : V} {B B1 : Addr → Prop} {H H' : Hp} {v : V} {ds : List PyData} (hs : ∀ b, B b → B1 b) (h : VOk t B1 H v H' (.own ds)) : VOk t B H v H' (.own ds) := by
  obtain ⟨a, vs, h1, ⟨h2, h3⟩, h4, h5⟩ := h
  exact ⟨a, vs, h1, ⟨h2, fun z => h3 (hs a z)⟩, h4, h5.ex (msk_less fun b z => z.imp (hs b) id)⟩
end
section
variable [Bas] [Tabz]
local instance (priority := high) yoFamUn2 : Fam := famS
theorem pdSortUn {X : Cx} {e : Expr} {f g : DF} (h : PE X e (tCB (rSortedKT X.prog X.w) (tCons (fun σ H Q => tCB (rSetD X.prog X.w) (tCons (tD f) tNil) σ H fun x H1 => tCB (rSetD X.prog X.w) (tCons (tD g) tNil) σ H1 fun y H2 => rOrK X.prog X.w x y H2 Q) tNil))) : PE X e (tD (dSortUn f g)) := h.imp fun σ H Q ⟨c, A, n, ρ, Q', E, hf, k⟩ => by
  refine ⟨c, A, n, ρ, _, E, hf, fun v r n1 H1 ⟨a, kvs, ex, es, ks, ek, few, hg⟩ f1 o1 => ?_⟩
  subst ex
  cases o1
  have E1 := E.fr f1
  obtain ⟨⟨vs, h1, h2⟩, _⟩ := E1.sat es
  have kl : vs.map (·.1) = ks.map Sum.inr := h2.keys.trans ek
  have ll : vs.length = ks.length := by
    have z := congrArg List.length kl
    rwa [List.length_map, List.length_map] at z
  refine ⟨a, vs, rfl, .inl h1, by omega, fun p np => ?_⟩
  obtain ⟨kp, A1, _, _, hA1, same, hAk, E0⟩ := E1.sideO (o9 := SetKT X.prog X.w p (fun x => vs.any fun kv => decide (kv.1 = x)) vs.length) (fun ps z => by cases z) np 0
  have hs : ∀ i a, A i = some a → ∃ j, A1 j = some a := fun i b e => by
    have ne : i ≠ kp := fun z => by
      rw [z, hAk] at e
      cases e
    exact ⟨i, (same i ne).trans e⟩
  have f0 : Fr c A n1 n1 H1 (upd H1 p (SetKT X.prog X.w p (fun x => vs.any fun kv => decide (kv.1 = x)) vs.length)) := Fr.new E1.g np
  refine ⟨c, A1, n1, ρ, _, E0, hg, fun w r2 n2 H2 ⟨b, lvs, ex2, es2, ls, el, few2, hq⟩ f2 o2 => ?_⟩
  subst ex2
  cases o2
  have E2 := E0.fr f2
  obtain ⟨⟨us, g1, g2⟩, _⟩ := E2.sat es2
  have ul : us.map (·.1) = ls.map Sum.inr := g2.keys.trans el
  have lu : us.length = ls.length := by
    have z := congrArg List.length ul
    rwa [List.length_map, List.length_map] at z
  have np9 : ¬ c.P n1 p := fun z => (E0.nP hA1) (c.PB z)
  have hp2 : H2 p = some (SetKT X.prog X.w p (fun x => vs.any fun kv => decide (kv.1 = x)) vs.length) := f2.1.k np9 (fun _ z => by cases z) upd_same
  refine ⟨b, us, rfl, .inl g1, by omega, fun q nq => ?_⟩
  have nqp : p ≠ q := fun z => by
    rw [z, nq] at hp2
    cases hp2
  have f3 : Fr c A1 n2 n2 H2 (upd H2 q (SetKT X.prog X.w q (fun x => us.any fun kv => decide (kv.1 = x)) us.length)) := Fr.new E2.g nq
  have E3 := E2.fr f3
  refine ⟨p, q, _, _, _, _, rfl, rfl, nqp, by rw [upd_ne nqp]; exact hp2, upd_same, by omega, fun u m nu hm => ?_⟩
  have f4 : Fr c A1 n2 n2 _ (upd (upd H2 q (SetKT X.prog X.w q (fun x => us.any fun kv => decide (kv.1 = x)) us.length)) u (SetKT X.prog X.w u (fun x => (vs.any fun kv => decide (kv.1 = x)) || us.any fun kv => decide (kv.1 = x)) m)) := Fr.new E3.g nu
  have E4 := E3.fr f4
  refine ⟨u, _, m, rfl, upd_same, by omega, fun kk hk => ?_, fun out l so nd mo _ nl => ?_⟩
  · rw [Bool.or_eq_true, any_txt kl, any_txt ul] at hk
    rcases hk with ⟨x, _, e⟩ | ⟨x, _, e⟩
    · exact ⟨x, e⟩
    · exact ⟨x, e⟩
  · have f5 := FrV.same E4.g (same_new nl) (own_new E4 nl (rp_strsS out))
    have fin := (((f1.trans f0).trans (f2.lessA hs)).trans (f3.lessA hs)).trans (f4.lessA hs)
    refine k _ _ n2 _ (hq out so nd fun x => ?_) (fin.trans (f5.lessA hs)) (VOk.mono E fin (VOk.lessO (fun b => av_less hs) (own_new E4 nl (rp_strsS out))))
    rw [mo x, Bool.or_eq_true, any_txt kl, any_txt ul]
    constructor
    · rintro (⟨y, hy, e⟩ | ⟨y, hy, e⟩)
      · exact .inl (Sum.inr.inj e ▸ hy)
      · exact .inr (Sum.inr.inj e ▸ hy)
    · rintro (z | z)
      · exact .inl ⟨x, z, rfl⟩
      · exact .inr ⟨x, z, rfl⟩
end

/-! ### sorted texts: one list for given members -/
section
open PyProof.Rows PySem.Spec
def leS (a b : Str) : Prop := ¬ b.cps.toList < a.cps.toList
theorem leS_of {a b : Str} (h : (!ltCps b.cps.toList a.cps.toList) = true) : leS a b := by
  rw [ltCps_eq] at h
  intro z
  rw [decide_eq_true z] at h
  cases h
theorem leS_trans {a b c : Str} (h1 : leS a b) (h2 : leS b c) : leS a c := by
  have h1 : a.cps.toList ≤ b.cps.toList := h1
  have h2 : b.cps.toList ≤ c.cps.toList := h2
  have h3 : a.cps.toList ≤ c.cps.toList := List.le_trans h1 h2
  exact h3
theorem leS_anti {a b : Str} (h1 : leS a b) (h2 : leS b a) : a = b := by
  have h1 : a.cps.toList ≤ b.cps.toList := h1
  have h2 : b.cps.toList ≤ a.cps.toList := h2
  exact Str.ext' (Array.toList_inj.mp (List.le_antisymm h1 h2))
theorem risingS_pw : ∀ (l : List Str) (p : Str), risingS p l = true → (p :: l).Pairwise leS
  | [], p, _ => List.pairwise_cons.mpr ⟨fun x hx => (by cases hx), .nil⟩
  | x :: r, p, h => by
    have h : (!ltCps x.cps.toList p.cps.toList && risingS x r) = true := h
    rw [Bool.and_eq_true] at h
    have ih := risingS_pw r x h.2
    have hp := leS_of h.1
    refine List.pairwise_cons.mpr ⟨fun y hy => ?_, ih⟩
    rcases List.mem_cons.mp hy with e | e
    · exact e ▸ hp
    · exact leS_trans hp ((List.pairwise_cons.mp ih).1 y e)
theorem sortedS_pw {l : List Str} (h : sortedS l = true) : l.Pairwise leS := by
  cases l with
  | nil => exact .nil
  | cons x r => exact risingS_pw r x h
theorem sortedS_of {l : List Str} (h : l.Pairwise leS) : sortedS l = true := sortedS_of_pairwise l (h.imp fun {a b} z => by
  rw [ltCps_eq]
  exact decide_eq_false z)
theorem sortedS_sub {a b : List Str} (h : sortedS b = true) (s : a.Sublist b) : sortedS a = true := sortedS_of ((sortedS_pw h).sublist s)
theorem sortedS_uniq {a b : List Str} (ha : sortedS a = true) (hb : sortedS b = true) (na : a.Nodup) (nb : b.Nodup) (h : ∀ x, x ∈ a ↔ x ∈ b) : a = b :=
  List.Perm.eq_of_pairwise (le := leS) (fun _ _ _ _ => leS_anti) (sortedS_pw ha) (sortedS_pw hb) ((List.perm_ext_iff_of_nodup na nb).mpr h)
theorem nodup_len : ∀ {ks L : List Str}, ks.Nodup → (∀ k ∈ ks, k ∈ L) → ks.length ≤ L.length
  | [], _, _, _ => Nat.zero_le _
  | k :: ks, L, h, hs => by
    have h1 := List.nodup_cons.mp h
    have hk := hs k List.mem_cons_self
    have ih := nodup_len (L := L.erase k) h1.2 fun x hx => (List.mem_erase_of_ne (a := x) (b := k) (fun e => h1.1 (by rw [← e]; exact hx))).mpr (hs x (List.mem_cons_of_mem _ hx))
    have el := List.length_erase_of_mem hk
    have lp := List.length_pos_of_mem hk
    rw [List.length_cons]
    omega
end

structure Txt (mg : Str → Option Value) : Prop where
  b_len : mg "len" = none
  b_max : mg "max" = none
  b_min : mg "min" = none
  b_range : mg "range" = none
  b_isinstance : mg "isinstance" = none
  b_abs : mg "abs" = none
  b_bool : mg "bool" = none
  b_sum : mg "sum" = none
  b_set : mg "set" = none
  b_sorted : mg "sorted" = none
/-! ### the wells: cells, what is left of one, a seed -/
theorem op_powB {X : Cx} : OpR X (PySem.binaryOp .Pow) (rI (fun i j => 0 ≤ j ∧ (Builtin.Int.intBits i : Int) * j ≤ 2 ^ 27) fun i j => .int (i ^ j.toNat)) := L2.opI fun _ _ _ _ _ _ _ hc q => PyProof.Rows.pow_int hc.1 hc.2 q
def We (H : Hp) (p l : Addr) : Prop := ∃ (cells : List Int) (cur seed : Int), H p = some (.lst [.ref l, .int cur, .int seed]) ∧ H l = some (.lst (cells.map V.int)) ∧ (∀ c ∈ cells, 0 ≤ c) ∧ cells.length ≤ 63 ∧ 0 ≤ cur ∧ 0 ≤ seed ∧ seed < 2 ^ 40
theorem We.ne {H : Hp} {p l : Addr} (h : We H p l) : p ≠ l := fun e => by
  obtain ⟨cells, cur, seed, h1, h2, _⟩ := h
  rw [e, h2] at h1
  cases cells with
  | nil => cases h1
  | cons c cs => cases h1
theorem We.keep {H H' : Hp} {p l : Addr} (h : We H p l) (k1 : ∀ o, H p = some o → H' p = some o) (k2 : ∀ o, H l = some o → H' l = some o) : We H' p l := by
  obtain ⟨cells, cur, seed, h1, h2, r⟩ := h
  exact ⟨cells, cur, seed, k1 _ h1, k2 _ h2, r⟩
instance basW : Bas where
  Tq := fun u t H _ => ∀ a, t = .ref a → ∃ l, u = .ref l ∧ We H a l
  Pq := fun u t a => t = .ref a ∨ (u = .ref a ∧ ∃ b, t = .ref b)
  mv := fun g k a e => by
    obtain ⟨l, el, h⟩ := g a e
    exact ⟨l, el, h.keep (fun o => k _ o (.inl e)) fun o => k _ o (.inr ⟨el, a, e⟩)⟩
  ty := fun {u t H n a} g e => by
    rcases e with e | ⟨e, b, eb⟩
    · obtain ⟨l, el, cells, cur, seed, h1, h2, r⟩ := g _ e
      exact ⟨_, h1⟩
    · obtain ⟨l, el, cells, cur, seed, h1, h2, r⟩ := g _ eb
      rw [el] at e
      cases e
      exact ⟨_, h2⟩
@[reducible] instance famP : Fam := famB
instance quietW : Quiet := ⟨fun g => g⟩
def spWell (K : PySem.W.Frag) : Sp := fun vs H Q _ => ∃ (a : Addr) (ns : List Int), vs = [.ref a] ∧ SqL K H a (ns.map V.int) ∧ ns.length ≤ 63 ∧ (∀ z ∈ ns, Builtin.Int.intBits z ≤ 1048576) ∧ ∀ p l H', H p = none → H l = none → Same H H' → We H' p l → Q (.ref p) H'
def Keep2 (p l : Addr) (H H' : Hp) : Prop := ∀ b o, b ≠ p → b ≠ l → H b = some o → H' b = some o
def spDraw : Sp := fun vs H Q _ => ∃ (p l : Addr) (many : Int), vs = [.ref p, .int many] ∧ We H p l ∧ 1 ≤ many ∧ many < 2 ^ 300 ∧
  ∀ r H', 0 ≤ r → r < many → We H' p l → Keep2 p l H H' → Q (.int r) H'
theorem bits_abs (z : Int) : Builtin.Int.intBits z ≤ 1048576 → z.natAbs < 2 ^ 1048576 := fun h => Nat.lt_of_lt_of_le (PyProof.Rows.natAbs_lt_pow_bits z) (Nat.pow_le_pow_right (by decide) h)
theorem bits_sum {seed cell : Int} (h0 : 0 ≤ seed) (h1 : seed < 2 ^ 40) (h : Builtin.Int.intBits cell ≤ 1048576) : (Builtin.Int.intBits (seed * 50021 + cell) : Int) * 3 ≤ 2 ^ 27 := by
  have a : cell.natAbs < 2 ^ 1048576 := bits_abs cell h
  have b : (2 : Nat) ^ 60 ≤ 2 ^ 1048576 := Nat.pow_le_pow_right (by decide) (by decide)
  have e : (2 : Nat) ^ 1048577 = 2 * 2 ^ 1048576 := by rw [show (1048577 : Nat) = 1048576 + 1 from rfl, Nat.pow_succ, Nat.mul_comm]
  have c : (seed * 50021 + cell).natAbs < 2 ^ 1048577 := by
    rw [e]
    generalize (2 : Nat) ^ 1048576 = B at a b
    have : (2 : Nat) ^ 60 = 1152921504606846976 := by decide
    omega
  have := PyProof.Rows.intBits_le c
  omega
theorem at_nat {xs : List V} {i : Nat} {v : V} (h : xs[i]? = some v) : atI xs (i : Int) = some v := atI_nat h

section
variable {P : Program} {w : World} {K : PySem.W.Frag} {mg : Str → Option Value} {base : Heap}
section
variable {P : Program} {w : World} {K : PySem.W.Frag} {mg : Str → Option Value} {base : Heap}
abbrev s_law_well : Stmt := topS 4
theorem sc_law_well : FnScope ["script", "seed", "cell"] ["script"] (defScope s_law_well) := ⟨rfl, rfl, rfl, by decide +kernel, rfl, by decide +kernel, by decide +kernel⟩
theorem ok_well {f : Addr} {fd : FuncData} (F : Fun K "_law_well" "_law_well" s_law_well f fd) (T : Txt mg) : FnOk P w K mg base CX0 1 f fd ["script"] (spWell K) := by
  refine F.ok sc_law_well (fun vs H Q E h => ?_) (fun cdv A outer s H vs Q E hr h => ?_)
  · obtain ⟨a, ns, rfl, _⟩ := h
    rfl
  · obtain ⟨a, ns, rfl, hS, hlen, hb, q⟩ := h
    refine ⟨_, (pss_cons (ps_set (i := 1) sc_law_well.nd rfl (Or.inl rfl) pe_int)
          (pss_cons (ps_for PassesOwn.never rfl (pi_list (pv 0)) (pg_name (i := 2) sc_law_well.nd rfl (Or.inl rfl))
           (pss_one (ps_set (i := 1) sc_law_well.nd rfl (Or.inl rfl) (pe_op op_add (pe_op op_mod (pe_op op_powB (pe_op op_add (pe_op op_mul (pv 1) pe_int) (pv 2)) pe_int) pe_int) pe_int))))
          (pss_one (ps_ret (pe_lst (pa_cons (pe_lc (own := [("cell", 2)]) (g := gName 2) (tt := tYes) rfl sc_law_well.nd (pi_list (pv 0)) (blkOk_by (N := ["script", "seed", "cell"]) (sc := defScope s_law_well) (by decide +kernel)) (fun _ _ _ _ _ => (pg_name (i := 2) sc_law_well.nd rfl (Or.inl rfl))) (fun _ _ _ _ _ => pts_nil) (fun _ _ _ _ _ => (pe_callB call_abs (by rfl) T.b_abs (by decide +kernel) (pa_cons (pv 2) pa_nil)))) (pa_cons pe_int (pa_cons (pv 1) pa_nil)))))))), ?_⟩
    refine ⟨_, rfl, a, rfl, ⟨_, hS⟩, for_list (K := K) (a := a) (xs := ns.map V.int) (fun i σ H' => H' = H ∧ ∃ (seed : Int) (t2 : Option V), σ = [some (.ref a), some (.int seed), t2] ∧ 0 ≤ seed ∧ seed < 2 ^ 40) ⟨rfl, 1, _, rfl, by decide, by decide⟩ (fun i σ H' _ h => by rw [h.1]; exact hS) ?_ ?_⟩
    · rintro i x σ H' hx ⟨rfl, seed, t2, rfl, h0, h1⟩
      rw [List.getElem?_map] at hx
      cases e : ns[i]? with
      | none => rw [e] at hx; cases hx
      | some z =>
        rw [e] at hx
        cases hx
        have hz := hb z (List.mem_of_getElem? e)
        refine ⟨_, rfl, _, _, rfl, rfl, .inl ⟨by omega, by omega⟩, _, rfl, _, _, rfl, rfl, _, _, rfl, rfl, ⟨by decide, bits_sum h0 h1 hz⟩, _, _, rfl, rfl, (by show (0 : Int) < 2147483629; decide), _, _, rfl, rfl, ?_⟩
        have m0 := Int.emod_nonneg ((seed * 50021 + z) ^ (3 : Int).toNat) (show (2147483629 : Int) ≠ 0 by decide)
        have m1 := Int.emod_lt_of_pos ((seed * 50021 + z) ^ (3 : Int).toNat) (show (0 : Int) < 2147483629 by decide)
        generalize (seed * 50021 + z) ^ (3 : Int).toNat % 2147483629 = m at m0 m1
        exact ⟨rfl, _, _, rfl, by omega, by omega⟩
    · rintro σ H' ⟨rfl, seed, t2, rfl, h0, h1⟩
      refine ⟨_, rfl, a, rfl, ⟨_, hS⟩, fun D nD => lc_list (K := K) (a := a) (xs := ns.map V.int) (fun i H2 => Same H' H2 ∧ H2 D = some (.lst (((ns.take i).map fun z => if z < 0 then -z else z).map V.int))) ⟨Same.new nD, upd_same⟩ (fun i H2 _ h => h.1.seq hS) ?_ ?_⟩
      · rintro i x H2 hx ⟨s2, e2⟩
        rw [List.getElem?_map] at hx
        cases e : ns[i]? with
        | none => rw [e] at hx; cases hx
        | some z =>
          rw [e] at hx
          cases hx
          refine ⟨rfl, yesC ?_⟩
          refine ⟨_, rfl, _, rfl, _, e2, ?_, ?_, ?_⟩
          · rw [List.length_map, List.length_map, List.length_take]
            exact Nat.lt_of_le_of_lt (Nat.min_le_left _ _) (Nat.lt_of_lt_of_le (Nat.lt_of_lt_of_le (List.getElem?_eq_some_iff.mp e).1 hlen) (by decide))
          · exact fun b o hb => by
              rw [upd_ne (ne_of_none (s2 b o hb |> fun _ => hb) nD)]
              exact s2 b o hb
          · rw [upd_same, List.take_succ, e, List.map_append, List.map_append]
            rfl
      · rintro H2 ⟨s2, e2⟩
        rw [List.length_map, List.take_length] at e2
        refine ⟨_, rfl, (by show 3 ≤ sizeLine; decide), fun p np => ?_⟩
        have pD : D ≠ p := ne_of_none e2 np
        refine q p D _ (s2.free np) nD (fun b o hb => ?_) ⟨_, 0, seed, upd_same, by rw [upd_ne pD]; exact e2, fun c hc => ?_, by rw [List.length_map]; exact hlen, by decide, h0, h1⟩
        · have hb2 := s2 b o hb
          rw [upd_ne (ne_of_none hb2 np)]
          exact hb2
        · obtain ⟨z, hz, rfl⟩ := List.mem_map.mp hc
          split <;> omega
theorem rp_ints {M : Hp} : ∀ ns : List Int, RpA M (ns.map V.int) (ns.map PyData.int)
  | [] => .nil
  | n :: ns => .cons (.int n) (rp_ints ns)
theorem ints_lay : ∀ ns : List Int, PyData.canLayAll0 (ns.map PyData.int) = true
  | [] => rfl
  | n :: ns => by
    show (PyData.canLay0 (.int n) && PyData.canLayAll0 (ns.map PyData.int)) = true
    rw [ints_lay ns]
    rfl
theorem ints_depth : ∀ ns : List Int, PyData.depthAll (ns.map PyData.int) = 0
  | [] => rfl
  | n :: ns => by
    have := ints_depth ns
    simp only [List.map_cons, PyData.depthAll, PyData.depth, this]
    rfl
theorem ints_shaped (ns : List Int) : SeqAt.shaped (.list (ns.map PyData.int)) = true := by
  unfold SeqAt.shaped
  have e : (PyData.list (ns.map PyData.int)).canLay0 = true := by
    simp only [PyData.canLay0]
    exact ints_lay ns
  rw [e, Bool.true_and]
  refine decide_eq_true ?_
  simp only [PyData.depth, ints_depth]
  decide
abbrev s_law_draw : Stmt := topS 5
theorem sc_law_draw : FnScope ["well", "many", "cell", "found"] ["well", "many"] (defScope s_law_draw) := ⟨rfl, rfl, rfl, by decide +kernel, rfl, by decide +kernel, by decide +kernel⟩
theorem ok_draw {f : Addr} {fd : FuncData} (F : Fun K "_law_draw" "_law_draw" s_law_draw f fd) (T : Txt mg) : FnOk P w K mg base CX0 1 f fd ["well", "many"] spDraw := by
  refine F.ok sc_law_draw (fun vs H Q E h => ?_) (fun cdv A outer s H vs Q E hr h => ?_)
  · obtain ⟨p, l, many, rfl, _⟩ := h
    rfl
  · obtain ⟨p, l, many, rfl, ⟨cells, cur, seed, hp, hl, hc, hlen, h1, h2, h3⟩, hm1, hm2, k⟩ := h
    have m0 : (0 : Int) < many := by omega
    have mw : ∀ x : Int, CDivW x many := fun x => wide_div m0 (b := 300) (by omega) (by decide) (by decide)
    have npl : p ≠ l := We.ne ⟨cells, cur, seed, hp, hl, hc, hlen, h1, h2, h3⟩
    refine ⟨_, (C8.pss_cut (ps_if (PW.pt (pw_and (pt_cmpR op_eq (pe_ix (r := rIxL K) ix_list (pv 0) pe_int (fun _ _ => rfl)) pe_int (nomark _)) (pw_and1 (pt_cmpR (op_neD hr.units) (pe_ix (r := rIxL K) ix_list (pv 0) pe_int (fun _ _ => rfl)) (pe_lst pa_nil) (nomark _))))) (pss_cons (ps_set (i := 2) sc_law_draw.nd rfl (Or.inl rfl) (pe_bm PySem.F.plainAttrs_list PySem.F.slot_list_pop PySem.F.type_list_pop mt_popAt (pe_ix (r := rIxL K) ix_list (pv 0) pe_int (fun _ _ => rfl)) (pa_cons pe_int pa_nil)))
            (pss_cons (ps_if (pt_cmpR op_lt (pv 2) (pe_op op_pow pe_int pe_int) (nomark _)) (pss_one (ps_ret (pe_op op_mod (pv 2) (pv 1)))) pss_nil)
            (pss_one (ps_asg (pv 2) (pg_sub (pv 0) pe_int set_list))))) pss_nil)
          (pss_cons (ps_if (pt_cmpR op_gt (pe_ix (r := rIxL K) ix_list (pv 0) pe_int (fun _ _ => rfl)) pe_int (nomark _)) (pss_cons (ps_set (i := 3) sc_law_draw.nd rfl (Or.inl rfl) (pe_op op_mod (pe_ix (r := rIxL K) ix_list (pv 0) pe_int (fun _ _ => rfl)) (pv 1)))
            (pss_cons (ps_asg (pe_op op_fdivW (pe_ix (r := rIxL K) ix_list (pv 0) pe_int (fun _ _ => rfl)) (pv 1)) (pg_sub (pv 0) pe_int set_list))
            (pss_one (ps_ret (pv 3))))) pss_nil)
          (pss_cons (ps_asg (pe_op op_mod (pe_op op_add (pe_op op_mul (pe_ix (r := rIxL K) ix_list (pv 0) pe_int (fun _ _ => rfl)) pe_int) pe_int) pe_int) (pg_sub (pv 0) pe_int set_list))
          (pss_one (ps_ret (pe_op op_mod (pe_op op_fdivW (pe_op op_mod (pe_op op_pow (pe_op op_mod (pe_op op_pow (pe_ix (r := rIxL K) ix_list (pv 0) pe_int (fun _ _ => rfl)) pe_int) pe_int) pe_int) pe_int) pe_int) (pv 1))))))), ?_⟩
    refine ⟨fun σ H' => ∃ (t2 t3 : Option V) (cur' : Int) (cells' : List Int), σ = [some (.ref p), some (.int many), t2, t3] ∧ H' p = some (.lst [.ref l, .int cur', .int seed]) ∧ H' l = some (.lst (cells'.map V.int)) ∧ (∀ c ∈ cells', 0 ≤ c) ∧ cells'.length ≤ 63 ∧ 0 ≤ cur' ∧ Keep2 p l H H', ?_, ?_⟩
    · have nx : ∀ H', (∀ b o, H b = some o → H' b = some o) → ∃ (t2 t3 : Option V) (cur' : Int) (cells' : List Int), L2.start ["well", "many", "cell", "found"] [.ref p, .int many] = [some (.ref p), some (.int many), t2, t3] ∧ H' p = some (.lst [.ref l, .int cur', .int seed]) ∧ H' l = some (.lst (cells'.map V.int)) ∧ (∀ c ∈ cells', 0 ≤ c) ∧ cells'.length ≤ 63 ∧ 0 ≤ cur' ∧ Keep2 p l H H' := fun H' s =>
        ⟨none, none, cur, cells, rfl, s _ _ hp, s _ _ hl, hc, hlen, h1, fun b o _ _ h => s b o h⟩
      refine ⟨_, rfl, p, _, _, _, rfl, rfl, SqL.of hp, rfl, rfl, _, rfl, ite2 (fun cz => ?_) (fun cz => ?_)⟩
      · refine ⟨_, rfl, p, _, _, _, rfl, rfl, SqL.of hp, rfl, (by show 0 ≤ sizeLine; decide), fun q nq => ?_⟩
        have s2 : ∀ b o, H b = some o → upd H q (.lst []) b = some o := fun b o h => by rw [upd_ne (ne_of_none h nq)]; exact h
        refine ⟨.list (cells.map PyData.int), .list [], (Rp.lst (s2 _ _ hl) (rp_ints cells)).dp (by simp only [PyData.canLay0]; exact ints_lay cells), (Rp.lst upd_same .nil).dp rfl, ints_shaped cells, ints_shaped [], _, rfl, ite2 (fun c2 => ?_) (fun c2 => ?_)⟩
        · cases cells with
          | nil => cases c2
          | cons c cs =>
            have c0 : cur = 0 := by
              have := of_decide_eq_true cz
              injection this
            obtain ⟨H1, e1⟩ : ∃ H1, H1 = upd H q (.lst []) := ⟨_, rfl⟩
            have p1 := s2 _ _ hp
            have l1 := s2 _ _ hl
            have k1 : ∀ b o, H b = some o → H1 b = some o := by rw [e1]; exact s2
            rw [← e1] at p1 l1
            show tSeq _ _ _ _ (upd H q (.lst []))
            rw [← e1]
            clear e1 s2 c2
            refine ⟨_, rfl, p, _, _, _, rfl, rfl, SqL.of p1, rfl, .inl ⟨rfl, _, SqL.of l1⟩, l, _, 0, 0, .int c, rfl, rfl, l1, by decide, by decide, by simp [seqIndex?], rfl, ?_⟩
            obtain ⟨H2, e2⟩ : ∃ H2, H2 = upd H1 l (.lst (cs.map V.int)) := ⟨_, rfl⟩
            have p2 : H2 p = some (.lst [.ref l, .int cur, .int seed]) := by rw [e2, upd_ne npl]; exact p1
            have l2 : H2 l = some (.lst (cs.map V.int)) := by rw [e2]; exact upd_same
            have k2 : Keep2 p l H H2 := fun b o n1 n2 hb => by rw [e2, upd_ne n2]; exact k1 b o hb
            show tSeq _ _ _ _ (upd H1 l (.lst (cs.map V.int)))
            rw [← e2]
            clear e2
            have hc0 := hc c List.mem_cons_self
            have hcs : ∀ x ∈ cs, 0 ≤ x := fun x hx => hc x (List.mem_cons_of_mem _ hx)
            have hln : cs.length ≤ 63 := by simp only [List.length_cons] at hlen; omega
            refine ⟨_, rfl, _, _, rfl, rfl, ⟨by decide, by decide, by decide⟩, _, _, rfl, rfl, _, rfl, ite2 (fun d => ?_) (fun d => ?_)⟩
            · refine ⟨_, rfl, _, rfl, _, _, rfl, rfl, m0, ?_⟩
              exact k _ _ (Int.emod_nonneg _ (by omega)) (Int.emod_lt_of_pos _ m0) ⟨cs, cur, seed, p2, l2, hcs, hln, h1, h2, h3⟩ k2
            · refine ⟨_, rfl, _, rfl, p, _, _, 1, rfl, rfl, p2, rfl, ?_⟩
              refine ⟨some (.int c), none, c, cs, rfl, upd_same, by rw [upd_ne npl.symm]; exact l2, hcs, hln, hc0, fun b o n1 n2 hb => ?_⟩
              rw [upd_ne n1]
              exact k2 b o n1 n2 hb
        · exact nx _ s2
      · exact nx _ fun _ _ h => h
    · rintro σ H1 ⟨t2, t3, cur', cells', rfl, p1, l1, c1, ln1, u1, kk⟩
      refine ⟨_, rfl, p, _, _, _, rfl, rfl, SqL.of p1, rfl, _, _, rfl, rfl, _, rfl, ite2 (fun c => ?_) (fun c => ?_)⟩
      · refine ⟨_, rfl, p, _, _, _, rfl, rfl, SqL.of p1, rfl, _, rfl, _, _, rfl, rfl, m0, ?_⟩
        refine ⟨_, rfl, p, _, _, _, rfl, rfl, SqL.of p1, rfl, _, rfl, _, _, rfl, rfl, mw _, _, rfl, p, _, _, 1, rfl, rfl, p1, rfl, ?_⟩
        refine ⟨_, rfl, ?_⟩
        refine k _ _ (Int.emod_nonneg _ (by omega)) (Int.emod_lt_of_pos _ m0) ⟨cells', cur' / many, seed, upd_same, by rw [upd_ne npl.symm]; exact l1, c1, ln1, Int.ediv_nonneg u1 (by omega), h2, h3⟩ (fun b o n1 n2 hb => ?_)
        rw [upd_ne n1]
        exact kk b o n1 n2 hb
      · refine ⟨_, rfl, p, _, _, _, rfl, rfl, SqL.of p1, rfl, _, _, rfl, rfl, .inl ⟨by omega, by omega⟩, _, _, rfl, rfl, _, _, rfl, rfl, (by show (0 : Int) < 2147483647; decide), _, rfl, p, _, _, 2, rfl, rfl, p1, rfl, ?_⟩
        obtain ⟨s1, es⟩ : ∃ s1, s1 = (seed * 48271 + 12345) % 2147483647 := ⟨_, rfl⟩
        have s10 : 0 ≤ s1 ∧ s1 < 2147483647 := by omega
        obtain ⟨H2, e2⟩ : ∃ H2, H2 = upd H1 p (.lst [.ref l, .int cur', .int s1]) := ⟨_, rfl⟩
        have p2 : H2 p = some (.lst [.ref l, .int cur', .int s1]) := by rw [e2]; exact upd_same
        have l2 : H2 l = some (.lst (cells'.map V.int)) := by rw [e2, upd_ne npl.symm]; exact l1
        have k2 : Keep2 p l H H2 := fun b o n1 n2 hb => by rw [e2, upd_ne n1]; exact kk b o n1 n2 hb
        have eh : (upd H1 p (HO.lst ([V.ref l, V.int cur', V.int seed].set 2 ((fun i j => V.int (i % j)) (seed * 48271 + 12345) 2147483647)))) = H2 := by
          rw [e2, es]
          rfl
        rw [eh]
        clear e2 es eh
        have a0 := Int.emod_nonneg (s1 ^ (3 : Int).toNat) (show (2147483629 : Int) ≠ 0 by decide)
        have a1 := Int.emod_lt_of_pos (s1 ^ (3 : Int).toNat) (show (0 : Int) < 2147483629 by decide)
        refine ⟨_, rfl, p, _, _, _, rfl, rfl, SqL.of p2, rfl, _, _, rfl, rfl, ⟨by decide, by decide, by show s1.natAbs < 2 ^ 64; omega⟩, _, _, rfl, rfl, (by show (0 : Int) < 2147483629; decide), _, _, rfl, rfl, ⟨by decide, by decide, ?_⟩, _, _, rfl, rfl, (by show (0 : Int) < 1000000007; decide), _, _, rfl, rfl, wide_div (b := 4) (by decide) (by decide) (by decide) (by decide), _, rfl, _, _, rfl, rfl, m0, ?_⟩
        · show (s1 ^ (3 : Int).toNat % 2147483629).natAbs < 2 ^ 64
          generalize s1 ^ (3 : Int).toNat % 2147483629 = x at a0 a1
          omega
        · exact k _ _ (Int.emod_nonneg _ (by omega)) (Int.emod_lt_of_pos _ m0) ⟨cells', cur', s1, p2, l2, c1, ln1, u1, s10.1, by omega⟩ k2
end

end
section
variable [Tabz]
local macro_rules | `(tactic| walk_at "d") => `(tactic| first | refine Or.inl ⟨_, rfl, ?_⟩ | refine Or.inr ⟨rfl, ?_⟩ | refine ⟨Nat.le_of_ble_eq_true rfl, ?_⟩ | refine ⟨⟨_, rfl⟩, ?_⟩ | refine ⟨_, rfl, ?_⟩ | refine ⟨_, _, rfl, ?_⟩ | refine ⟨_, _, _, rfl, ?_⟩ | refine ⟨_, _, _, _, rfl, ?_⟩)
/-! ### a well's draws by data readings -/
def mDraw : DM := fun rs (n : Int) Q => ∃ many : Int, rs = [.tape, .d (.int many)] ∧ Cnd (1 ≤ many ∧ many < 2 ^ 300) ∧ ∀ r, 0 ≤ r → r < many → Q (.d (.int r)) n
theorem L_draw : ∀ rs n Q, mDraw rs n Q → plainR rs ∧ rs.length = 2 := by
  rintro rs (n : Int) Q ⟨m, rfl, h⟩
  exact tapeR (ds := [_]) rfl
theorem keep_frW {c : EC} {n m : Int} {H H' : Hp} {a l : Addr} {v : V} {r : DV} (h0 : c.H0 = H) (hn : c.n0 = n) (g : c.G n (_root_.Rh.msk (c.B n) H) H) (e : c.t = .ref a) (el : c.u = .ref l) (k : Keep2 a l H H') (u : We H' a l) : FrV c A0 n m H H' v r := by
  obtain ⟨l', el', cells, cur, seed, hx, hy, _⟩ := g.1 a e
  rw [el] at el'
  cases el'
  refine ⟨fun b o q h => ⟨fun p => ⟨k b o (fun z => p (.inl (by rw [z]; exact e))) (fun z => p (.inr ⟨by rw [z]; exact el, a, e⟩)) h, p⟩, ?_⟩, fun a' e' => ?_, Tabs_mv g.2 fun b o ls _ _ h => k b o (fun z => ?_) (fun z => ?_) h⟩
  · obtain ⟨cells', cur', seed', h1, h2, _⟩ := u
    by_cases z : b = a
    · exact ⟨_, by rw [z]; exact h1, fun ps w => by cases w⟩
    · by_cases z2 : b = l
      · exact ⟨_, by rw [z2]; exact h2, fun ps w => by cases w⟩
      · exact ⟨o, k b o z z2 h, q⟩
  · rw [e] at e'
    cases e'
    exact ⟨l, el, u⟩
  · rw [z, hx] at h
    cases h
    exact ls _ rfl
  · rw [z, hy] at h
    cases h
    exact ls _ rfl
theorem ok_drawD {P : Program} {w : World} {K : PySem.W.Frag} {mg : Str → Option Value} {base : Heap} {f : Addr} {fd : FuncData} (F : Fun K "_law_draw" "_law_draw" s_law_draw f fd) (T : Txt mg) : FnOk P w K mg base CX0 1 f fd ["well", "many"] (spD mDraw) := by
  refine (ok_draw F T).imp fun vs H Q E ⟨c, n, rs, Q', h0, hn0, g, pn, ok, ⟨many, e, cc, hq⟩, kk⟩ => ?_
  subst e
  obtain ⟨hm0, hm1⟩ := cc.get
  cases ok with
  | cons h1 _ t => cases t with
    | cons h2 _ t =>
      cases t
      cases h2
      obtain ⟨e1, a, e2⟩ := h1
      rw [e1, e2]
      obtain ⟨l, el, hw⟩ := g.1 a e2
      exact ⟨a, l, many, rfl, hw, hm0, hm1, fun r H' r0 r1 u k => kk _ _ _ _ (hq r r0 r1) (keep_frW h0 hn0 g e2 el k u) (Rp.int r)⟩

end
section
variable [Tabz]
local macro_rules | `(tactic| walk_at "d") => `(tactic| first | refine Or.inl ⟨_, rfl, ?_⟩ | refine Or.inr ⟨rfl, ?_⟩ | refine ⟨Nat.le_of_ble_eq_true rfl, ?_⟩ | refine ⟨⟨_, rfl⟩, ?_⟩ | refine ⟨_, rfl, ?_⟩ | refine ⟨_, _, rfl, ?_⟩ | refine ⟨_, _, _, rfl, ?_⟩ | refine ⟨_, _, _, _, rfl, ?_⟩)
/-! ### eight names -/
theorem Str_len (s : Str) : s.length = s.cps.toList.length := by
  show s.cps.size = _
  rw [Array.length_toList]
theorem joinL_nil : ∀ ps : List (List Nat), TL.joinL [] ps = ps.flatten
  | [] => rfl
  | [p] => by simp [TL.joinL]
  | p :: q :: r => by
    have h := joinL_nil (q :: r)
    show p ++ ([] ++ TL.joinL [] (q :: r)) = _
    rw [h]
    rfl
theorem join_tl (ys : List Str) : (Txt.join "" ys).cps.toList = (ys.map fun s => s.cps.toList).flatten := by
  have e : TL.tl (Txt.join "" ys) = TL.joinL (TL.tl "") (ys.map TL.tl) := by
    rw [TL.join_eq, TL.tl_join]
  have e2 : TL.tl ("" : Str) = [] := by decide +kernel
  rw [e2, joinL_nil] at e
  exact e
theorem flat_len : ∀ ys : List Str, (∀ s ∈ ys, s.length = 1) → (ys.map fun s => s.cps.toList).flatten.length = ys.length
  | [], _ => rfl
  | y :: ys, h => by
    have h1 := h y List.mem_cons_self
    have h2 := flat_len ys fun s hs => h s (List.mem_cons_of_mem _ hs)
    rw [Str_len] at h1
    show (y.cps.toList ++ _).length = _
    rw [List.length_append, h1, h2, List.length_cons]
    omega
theorem join_len {ys : List Str} (h : ∀ s ∈ ys, s.length = 1) : (Txt.join "" ys).length = ys.length := by
  rw [Str_len, join_tl, flat_len ys h]
theorem sum_ones : ∀ ys : List Str, (∀ s ∈ ys, s.length = 1) → (ys.map (·.length)).sum = ys.length
  | [], _ => rfl
  | y :: ys, h => by
    have h1 := h y List.mem_cons_self
    have h2 := sum_ones ys fun s hs => h s (List.mem_cons_of_mem _ hs)
    show y.length + (ys.map (·.length)).sum = _
    rw [h1, h2, List.length_cons]
    omega

theorem opCat_okW {a b : List PyData} (h : a.length + b.length ≤ 200000) : opCat (.list a) (.list b) = some (.own (a ++ b)) := if_pos h
theorem Str_app_len (a b : Str) : (a ++ b).length = a.length + b.length := by
  rw [Str_len, Str_len, Str_len]
  show (a.cps ++ b.cps).toList.length = _
  rw [Array.toList_append, List.length_append]
theorem opIxS_ok {z : Str} {i : Int} (h : z.length ≤ 200000) : opIxS (.str z) (.int i) = (atI z.cps.toList i).map fun c => DV.d (.str ⟨#[c]⟩) := by simp only [opIxS, if_pos h]
theorem opSlS_ok {z : Str} {lo hi : Option Int} (h : z.length ≤ 200000) : opSlS (.str z) lo hi = some (.d (.str (cutS z lo hi))) := by simp only [opSlS, if_pos h]
theorem opAddS_ok {a b : Str} (h : a.length + b.length ≤ 200000) : opAddS (.str a) (.str b) = some (.d (.str (a ++ b))) := by simp only [opAddS, if_pos h]
theorem bLenS_ok {z : Str} (h : z.length ≤ 200000) : bLenS [.str z] = some (.d (.int (z.length : Nat))) := by simp only [bLenS, if_pos h]
theorem letters_cpsW : ("abcdefghijklmnopqrstuvwxyz" : Str).cps.toList = List.range' 97 26 := by decide +kernel
theorem ixLet {r : Int} (h0 : 0 ≤ r) (h : r < 26) : opIxS (.str "abcdefghijklmnopqrstuvwxyz") (.int r) = some (.d (.str ⟨#[97 + r.toNat]⟩)) := by
  obtain ⟨j, rfl⟩ := Int.eq_ofNat_of_zero_le h0
  have h2 : opIxS (.str "abcdefghijklmnopqrstuvwxyz") (.int (j : Int)) = (atI ("abcdefghijklmnopqrstuvwxyz" : Str).cps.toList (j : Int)).map fun c => DV.d (.str ⟨#[c]⟩) := opIxS_ok (by decide +kernel)
  have e : (List.range' 97 26)[j]? = some (97 + j) := by rw [List.getElem?_range' (by omega), Nat.one_mul]
  rw [letters_cpsW, atI_nat e] at h2
  exact h2
theorem nodup8 {f : Nat → Str} (h : ∀ i j, i < 8 → j < 8 → f i = f j → i = j) : ((List.range 8).map f).Nodup := by
  unfold List.Nodup
  rw [List.pairwise_map]
  have hr : (List.range 8).Pairwise (· ≠ ·) := List.nodup_range
  exact hr.imp_of_mem fun {a b} ha hb ne e => ne (h a b (List.mem_range.mp ha) (List.mem_range.mp hb) e)
theorem cut_lenHi (z : Str) (k : Nat) : (cutS z none (some (k : Int))).length = min k z.length := by
  show ((z.cps.toList.drop 0).take ((if (k : Int) < 0 then ((k : Int) + (z.length : Int)).toNat else min (k : Int).toNat z.length) - 0)).toArray.size = _
  have hz2 : z.cps.toList.length = z.length := (Str_len z).symm
  rw [List.size_toArray, List.length_take, List.drop_zero, hz2, if_neg (by omega)]
  omega
theorem cut_lenLo (z : Str) (k : Nat) : (cutS z (some (k : Int)) none).length = z.length - k := by
  have hz2 : z.cps.toList.length = z.length := (Str_len z).symm
  have e : HT.sIx z.length 0 (some (k : Int)) = min k z.length := HT.sIx_nat _ _ _
  show ((z.cps.toList.drop (HT.sIx z.length 0 (some (k : Int)))).take (z.length - HT.sIx z.length 0 (some (k : Int)))).toArray.size = _
  rw [List.size_toArray, List.length_take, List.length_drop, hz2, e]
  omega
theorem Str_mid {a b : Str} {c d : Nat} (h : (a ++ ⟨#[c]⟩ : Str) ++ b = (a ++ ⟨#[d]⟩ : Str) ++ b) : c = d := by
  have e : ((a ++ ⟨#[c]⟩ : Str) ++ b).cps.toList = ((a ++ ⟨#[d]⟩ : Str) ++ b).cps.toList := by rw [h]
  have f : ∀ x : Nat, ((a ++ ⟨#[x]⟩ : Str) ++ b).cps.toList = a.cps.toList ++ [x] ++ b.cps.toList := fun x => by
    show ((a.cps ++ #[x]) ++ b.cps).toList = _
    rw [Array.toList_append, Array.toList_append]
  rw [f, f] at e
  have e2 := List.append_cancel_left (List.append_cancel_right e)
  cases e2
  rfl
theorem lc8 {g : DG} {h : DF} {vs : List Nat} {ρ : List DV} {n : Fam.S} {Q : DQ} (f : Nat → Str) (own : (vs.all fun j => match ρ[j]? with | some x => !x.isOwn | none => false) = true)
    (step : ∀ i : Nat, i < 8 → ∃ ρ', g (.int (i : Nat)) (wipeD ρ vs) = some ρ' ∧ ∀ R : DQ, (∀ r, r.dat = some (.str (f i)) → R r n) → h ρ' n R) (q : Q (.own (((List.range 8).map f).map PyData.str)) n) : LcOk g (fun _ n Q => Q true n) h vs ρ Q ((List.range 8).map fun i => .int (i : Nat)) n := by
  refine lcMap (((List.range 8).map f).map PyData.str) own (by simp) (by simp) (fun i d y hd hy => ?_) q
  have hi : i < 8 := by
    have := (List.getElem?_eq_some_iff.mp hd).1
    simpa using this
  rw [List.getElem?_map, List.getElem?_range hi] at hd
  rw [List.map_map, List.getElem?_map, List.getElem?_range hi] at hy
  cases hd
  cases hy
  exact step i hi
theorem cut_hiW (ds : List PyData) (k : Nat) (h : k ≤ ds.length) : cutD ds (some (k : Int)) none = ds.drop k := by
  unfold cutD
  rw [HT.sIx_nat, HT.sIx_none, Nat.min_eq_left h, List.take_of_length_le (by rw [List.length_drop]; exact Nat.le_refl _)]
theorem cut_loW (ds : List PyData) (k : Nat) (h : k ≤ ds.length) : cutD ds none (some (k : Int)) = ds.take k := by
  unfold cutD
  rw [HT.sIx_nat, HT.sIx_none, Nat.min_eq_left h, List.drop_zero, Nat.sub_zero]
theorem cut_len (z : Str) (lo hi : Option Int) : (cutS z lo hi).length ≤ z.length := by
  show ((z.cps.toList.drop _).take _).toArray.size ≤ z.cps.size
  rw [List.size_toArray, List.length_take, List.length_drop, Array.length_toList]
  omega
theorem cut_pos {z : Str} {k : Int} (h : 1 ≤ k) (hz : 1 ≤ z.length) : 1 ≤ (cutS z none (some k)).length := by
  show 1 ≤ ((z.cps.toList.drop 0).take ((if k < 0 then (k + (z.length : Int)).toNat else min k.toNat z.length) - 0)).toArray.size
  have hz2 : z.cps.toList.length = z.length := (Str_len z).symm
  rw [List.size_toArray, List.length_take, List.drop_zero, hz2, if_neg (by omega)]
  omega
theorem strOk_all {s : Str} : PyData.strOk s = true ↔ ∀ c ∈ s.cps.toList, c < 0x110000 := by
  unfold PyData.strOk
  rw [← Array.all_toList, List.all_eq_true]
  exact ⟨fun h c hc => of_decide_eq_true (h c hc), fun h c hc => decide_eq_true (h c hc)⟩
theorem strOk_one {r : Int} (h0 : 0 ≤ r) (h : r < 26) : PyData.strOk ⟨#[97 + r.toNat]⟩ = true := strOk_all.mpr fun c hc => by
  have e : c = 97 + r.toNat := List.mem_singleton.mp hc
  omega
theorem strOk_app {a b : Str} (ha : PyData.strOk a = true) (hb : PyData.strOk b = true) : PyData.strOk (a ++ b) = true := strOk_all.mpr fun c hc => by
  have hc : c ∈ (a.cps ++ b.cps).toList := hc
  rw [Array.toList_append] at hc
  rcases List.mem_append.mp hc with z | z
  · exact strOk_all.mp ha c z
  · exact strOk_all.mp hb c z
theorem strOk_cut {s : Str} {a b : Option Int} (h : PyData.strOk s = true) : PyData.strOk (cutS s a b) = true := strOk_all.mpr fun c hc => by
  unfold cutS at hc
  have hc : c ∈ ((s.cps.toList.drop _).take _) := hc
  exact strOk_all.mp h c (List.mem_of_mem_drop (List.mem_of_mem_take hc))
theorem strOk_join {ys : List Str} (h : ∀ s ∈ ys, PyData.strOk s = true) : PyData.strOk (Txt.join "" ys) = true := strOk_all.mpr fun c hc => by
  rw [join_tl, List.mem_flatten] at hc
  obtain ⟨l, h1, h2⟩ := hc
  obtain ⟨s, hs, rfl⟩ := List.mem_map.mp h1
  exact strOk_all.mp (h s hs) c h2
theorem all8 {f : Nat → Str} {p : Str → Prop} (h : ∀ i, p (f i)) : ∀ s ∈ (List.range 8).map f, p s := fun s hs => by
  obtain ⟨i, _, rfl⟩ := List.mem_map.mp hs
  exact h i
def mNamesW : DM := fun rs (n : Int) Q => rs = [.tape] ∧ ∀ ns : List Str, ns.length = 8 → ns.Nodup → (∀ s ∈ ns, PyData.strOk s = true) → Q (.d (.list (ns.map PyData.str))) n
theorem L_names : ∀ rs n Q, mNamesW rs n Q → plainR rs ∧ rs.length = 1 := by
  rintro rs (n : Int) Q ⟨rfl, h⟩
  exact tapeR (ds := []) rfl
section
variable {P : Program} {w : World} {K : PySem.W.Frag} {mg : Str → Option Value} {base : Heap}
abbrev s_law_names : Stmt := topS 6
theorem sc_law_names : FnScope ["well", "letters", "word", "way", "turn", "found", "at", "k"] ["well"] (defScope s_law_names) := ⟨rfl, rfl, rfl, by decide +kernel, rfl, by decide +kernel, by decide +kernel⟩
theorem ok_namesW {f : Addr} {fd : FuncData} (F : Fun K "_law_names" "_law_names" s_law_names f fd) (T : Txt mg) (c_draw : Cal P w K mg base 1 "_law_draw" ["well", "many"] (spD mDraw)) : FnOk P w K mg base CX0 2 f fd ["well"] (spD mNamesW) := by
  apply okD F sc_law_names L_names
  case body =>
    intro cdv A outer s H E hr
    obtain ⟨f_draw, fd_draw, G_draw, m_draw, k_draw, b_draw⟩ := c_draw
    exact (psCons (psSet (i := 1) sc_law_names.nd rfl (Or.inr rfl) (pdC pe_str))
          (psCut (psSet (i := 2) sc_law_names.nd rfl (Or.inr rfl) (pdJoin (pe_join (pdC pe_str) ((pe_lc (own := [("k", 7)]) (tt := tYes) rfl sc_law_names.nd (piRng (pi_range1 (by rfl) T.b_range (paCons (pdC pe_int) paNil))) (blkOk_by (N := ["well", "letters", "word", "way", "turn", "found", "at", "k"]) (sc := defScope s_law_names) (by decide +kernel)) (fun _ _ _ _ _ => (pgN (pg_name (i := 7) sc_law_names.nd rfl (Or.inl rfl)))) (fun _ _ _ _ _ => pts_nil) (fun _ _ _ _ _ => (pdIx r2IxS ix_str (pdV (pv 1)) (pdCall (fun _ _ _ q => (L_draw _ _ _ q).1) G_draw (hr.mono (by decide)) (by rfl) m_draw k_draw b_draw pass0 (paCons (pdV (pv 0)) (paCons (pdC pe_int) paNil))) (fun _ _ => rfl)))).imp (lc_le (by decide) yes_le))) (fun _ _ _ q => q) (fun _ _ _ q => q)))
          (psCons (psSet (i := 3) sc_law_names.nd rfl (Or.inl rfl) (pdCall (fun _ _ _ q => (L_draw _ _ _ q).1) G_draw (hr.mono (by decide)) (by rfl) m_draw k_draw b_draw pass0 (paCons (pdV (pv 0)) (paCons (pdC pe_int) paNil))))
          (psCons (psSet (i := 4) sc_law_names.nd rfl (Or.inr rfl) (pdCall (fun _ _ _ q => (L_draw _ _ _ q).1) G_draw (hr.mono (by decide)) (by rfl) m_draw k_draw b_draw pass0 (paCons (pdV (pv 0)) (paCons (pdC pe_int) paNil))))
          (psCut (psIf (ptCmp r2Eq op_eq (pdV (pv 3)) (pdC pe_int) (nomark _)) (psOne ((ps_setLc (i := 5) (own := [("k", 7)]) (tt := tYes) rfl sc_law_names.nd rfl rfl (sw_true rfl rfl rfl (by decide +kernel)) (piRng (pi_range1 (by rfl) T.b_range (paCons (pdC pe_int) paNil))) (blkOk_by (N := ["well", "letters", "word", "way", "turn", "found", "at", "k"]) (sc := defScope s_law_names) (by decide +kernel)) (fun _ _ _ _ _ => (pgN (pg_name (i := 7) sc_law_names.nd rfl (Or.inl rfl)))) (fun _ _ _ _ _ => pts_nil) (fun _ _ _ _ _ => (pdSl slSD sl_str (pdV (pv 2)) poNone (poSome (pdOp r2Add op_add (pdV (pv 7)) (pdC pe_int)))))).imp (set_le2 (lc_le (by decide) yes_le)))) (psOne (psIf (ptCmp r2Eq op_eq (pdV (pv 3)) (pdC pe_int) (nomark _)) (psOne ((ps_setLc (i := 5) (own := [("k", 7)]) (tt := tYes) rfl sc_law_names.nd rfl rfl (sw_true rfl rfl rfl (by decide +kernel)) (piRng (pi_range1 (by rfl) T.b_range (paCons (pdC pe_int) paNil))) (blkOk_by (N := ["well", "letters", "word", "way", "turn", "found", "at", "k"]) (sc := defScope s_law_names) (by decide +kernel)) (fun _ _ _ _ _ => (pgN (pg_name (i := 7) sc_law_names.nd rfl (Or.inl rfl)))) (fun _ _ _ _ _ => pts_nil) (fun _ _ _ _ _ => (pdSl slSD sl_str (pdV (pv 2)) (poSome (pdV (pv 7))) poNone))).imp (set_le2 (lc_le (by decide) yes_le)))) (psCut (psSet (i := 2) sc_law_names.nd rfl (Or.inr rfl) (pdSl slSD sl_str (pdV (pv 2)) poNone (poSome (pdOp r2Add op_add (pdC pe_int) (pdCall (fun _ _ _ q => (L_draw _ _ _ q).1) G_draw (hr.mono (by decide)) (by rfl) m_draw k_draw b_draw pass0 (paCons (pdV (pv 0)) (paCons (pdC pe_int) paNil)))))))
              (psCons (psSet (i := 6) sc_law_names.nd rfl (Or.inr rfl) (pdCall (fun _ _ _ q => (L_draw _ _ _ q).1) G_draw (hr.mono (by decide)) (by rfl) m_draw k_draw b_draw pass0 (paCons (pdV (pv 0)) (paCons (pdB rsLenS call_len_str (by rfl) T.b_len (by decide +kernel) (paCons (pdV (pv 2)) paNil)) paNil))))
              (psOne ((ps_setLc (i := 5) (own := [("k", 7)]) (tt := tYes) rfl sc_law_names.nd rfl rfl (sw_true rfl rfl rfl (by decide +kernel)) (piRng (pi_range1 (by rfl) T.b_range (paCons (pdC pe_int) paNil))) (blkOk_by (N := ["well", "letters", "word", "way", "turn", "found", "at", "k"]) (sc := defScope s_law_names) (by decide +kernel)) (fun _ _ _ _ _ => (pgN (pg_name (i := 7) sc_law_names.nd rfl (Or.inl rfl)))) (fun _ _ _ _ _ => pts_nil) (fun _ _ _ _ _ => (pdOp r2AddS op_add_str (pdOp r2AddS op_add_str (pdSl slSD sl_str (pdV (pv 2)) poNone (poSome (pdV (pv 6)))) (pdIx r2IxS ix_str (pdV (pv 1)) (pdOp r2Mod op_mod (pdOp r2Add op_add (pdV (pv 4)) (pdOp r2Mul op_mulW (pdC pe_int) (pdV (pv 7)))) (pdC pe_int)) (fun _ _ => rfl))) (pdSl slSD sl_str (pdV (pv 2)) (poSome (pdOp r2Add op_add (pdV (pv 6)) (pdC pe_int))) poNone)))).imp (set_le2 (lc_le (by decide) yes_le)))))))))
          (psFrz 5 (psOne (psRet (pdCold (pdOp r2Cat op_cat (pdSl slLD sl_list (pdV (pv 5)) (poSome (pdV (pv 4))) poNone) (pdSl slLD sl_list (pdV (pv 5)) poNone (poSome (pdV (pv 4))))))))))))))
  case data =>
    rintro rs (n : Int) Q ⟨rfl, h⟩
    repeat walk_at "d"
    refine ⟨fun ρ m => m = n ∧ ∃ z : Str, (z.length = 8 ∧ PyData.strOk z = true) ∧ ρ = [.tape, .d (.str "abcdefghijklmnopqrstuvwxyz"), .d (.str z), .un, .un, .un, .un, .un], ?_, ?_⟩
    · repeat walk_at "d"
      refine ⟨by decide, by decide, ?_⟩
      refine ⟨rfl, by decide, fun i acc m => m = n ∧ ∃ ys : List Str, acc = ys.map PyData.str ∧ ys.length = i ∧ ∀ s ∈ ys, s.length = 1 ∧ PyData.strOk s = true, ⟨rfl, [], rfl, rfl, fun s hs => by cases hs⟩, ?_, ?_⟩
      · rintro i d acc m hd ⟨rfl, ys, rfl, hl, h1⟩
        refine ⟨_, rfl, ?_⟩
        repeat walk_at "d"
        refine ⟨cnd ⟨by decide, by decide⟩, fun r r0 r1 => ?_⟩
        repeat walk_at "d"
        refine ⟨_, ixLet r0 r1, ?_⟩
        refine ⟨_, rfl, rfl, ys ++ [⟨#[97 + r.toNat]⟩], by rw [List.map_append]; rfl, by rw [List.length_append, hl]; rfl, fun s hs => ?_⟩
        rcases List.mem_append.mp hs with e | e
        · exact h1 s e
        · rw [List.mem_singleton.mp e]
          exact ⟨rfl, strOk_one r0 r1⟩
      · rintro acc m ⟨rfl, ys, rfl, hl, h1⟩
        have hl : ys.length = 8 := hl
        repeat walk_at "d"
        refine ⟨ys, strsOf_map ys, cnd ?_, ?_⟩
        · unfold joinSize
          rw [sum_ones ys (fun s hs => (h1 s hs).1), hl]
          decide
        repeat walk_at "d"
        exact ⟨rfl, _, ⟨by rw [join_len (fun s hs => (h1 s hs).1), hl], strOk_join fun s hs => (h1 s hs).2⟩, rfl⟩
    rintro ρ m ⟨rfl, z, ⟨hz, zok⟩, rfl⟩
    repeat walk_at "d"
    refine ⟨cnd ⟨by decide, by decide⟩, fun way w0 w1 => ?_⟩
    repeat walk_at "d"
    refine ⟨cnd ⟨by decide, by decide⟩, fun turn t0 t1 => ?_⟩
    repeat walk_at "d"
    refine ⟨fun ρ n' => n' = m ∧ ∃ (ns : List Str) (z : Str) (j6 : DV), (ns.length = 8 ∧ ns.Nodup ∧ ∀ s ∈ ns, PyData.strOk s = true) ∧ ρ = [.tape, .d (.str "abcdefghijklmnopqrstuvwxyz"), .d (.str z), .d (.int way), .d (.int turn), .own (ns.map PyData.str), j6, .un], ?_, ?_⟩
    · have h8 : ∀ f : Nat → Str, ((List.range 8).map f).length = 8 := fun f => by simp
      repeat walk_at "d"
      refine ite2 (fun _ => ?_) (fun _ => ?_)
      · repeat walk_at "d"
        refine ⟨by decide, by decide, ?_⟩
        refine lc8 (fun i => cutS z none (some ((i : Int) + 1))) rfl (fun i hi => ⟨_, rfl, fun R hR => ?_⟩) ?_
        · repeat walk_at "d"
          exact ⟨_, opSlS_ok (by omega), hR _ rfl⟩
        · repeat walk_at "d"
          exact ⟨rfl, _, z, _, ⟨h8 _, nodup8 (fun i j hi hj e => by
            have e1 : (cutS z none (some (((i + 1 : Nat)) : Int))).length = (cutS z none (some (((j + 1 : Nat)) : Int))).length := congrArg Str.length e
            rw [cut_lenHi, cut_lenHi, hz] at e1
            omega), all8 fun i => strOk_cut zok⟩, rfl⟩
      repeat walk_at "d"
      refine ite2 (fun _ => ?_) (fun _ => ?_)
      · repeat walk_at "d"
        refine ⟨by decide, by decide, ?_⟩
        refine lc8 (fun i => cutS z (some (i : Int)) none) rfl (fun i hi => ⟨_, rfl, fun R hR => ?_⟩) ?_
        · repeat walk_at "d"
          exact ⟨_, opSlS_ok (by omega), hR _ rfl⟩
        · repeat walk_at "d"
          exact ⟨rfl, _, z, _, ⟨h8 _, nodup8 (fun i j hi hj e => by
            have e1 : (cutS z (some (i : Int)) none).length = (cutS z (some (j : Int)) none).length := congrArg Str.length e
            rw [cut_lenLo, cut_lenLo, hz] at e1
            omega), all8 fun i => strOk_cut zok⟩, rfl⟩
      repeat walk_at "d"
      refine ⟨fun ρ n' => n' = m ∧ ∃ z : Str, 1 ≤ z.length ∧ (z.length ≤ 8 ∧ PyData.strOk z = true) ∧ ρ = [.tape, .d (.str "abcdefghijklmnopqrstuvwxyz"), .d (.str z), .d (.int way), .d (.int turn), .un, .un, .un], ?_, ?_⟩
      · repeat walk_at "d"
        refine ⟨cnd ⟨by decide, by decide⟩, fun r r0 r1 => ?_⟩
        repeat walk_at "d"
        refine ⟨_, opSlS_ok (by omega), ?_⟩
        repeat walk_at "d"
        exact ⟨rfl, _, cut_pos (by omega) (by omega), ⟨by have := cut_len z none (some (1 + r)); omega, strOk_cut zok⟩, rfl⟩
      clear zok
      rintro ρ m' ⟨rfl, z, z1, ⟨z8, zok⟩, rfl⟩
      repeat walk_at "d"
      refine ⟨_, bLenS_ok (by omega), ?_⟩
      repeat walk_at "d"
      refine ⟨cnd ⟨by omega, by have : (8 : Int) < 2 ^ 300 := by decide
                                omega⟩, fun at_ a0 a1 => ?_⟩
      repeat walk_at "d"
      refine ⟨by decide, by decide, ?_⟩
      have hc : ∀ i : Nat, opIxS (.str "abcdefghijklmnopqrstuvwxyz") (.int ((turn + 3 * (i : Int)) % 26)) = some (.d (.str ⟨#[97 + ((turn + 3 * (i : Int)) % 26).toNat]⟩)) := fun i => ixLet (Int.emod_nonneg _ (by decide)) (Int.emod_lt_of_pos _ (by decide))
      refine lc8 (fun i => (cutS z none (some at_) ++ ⟨#[97 + ((turn + 3 * (i : Int)) % 26).toNat]⟩) ++ cutS z (some (at_ + 1)) none) rfl (fun i hi => ⟨_, rfl, fun R hR => ?_⟩) ?_
      · have l1 := cut_len z none (some at_)
        have l2 := cut_len z (some (at_ + 1)) none
        have l3 : (⟨#[97 + ((turn + 3 * (i : Int)) % 26).toNat]⟩ : Str).length = 1 := rfl
        have l4 := Str_app_len (cutS z none (some at_)) ⟨#[97 + ((turn + 3 * (i : Int)) % 26).toNat]⟩
        repeat walk_at "d"
        refine ⟨_, opSlS_ok (by omega), ?_⟩
        repeat walk_at "d"
        refine ⟨_, if_pos (decide_eq_true (mul_big (by decide) (by have : (8 : Nat) < 2 ^ 400 := by decide
                                                                   omega))), ?_⟩
        repeat walk_at "d"
        refine ⟨_, hc i, ?_⟩
        repeat walk_at "d"
        refine ⟨_, opAddS_ok (by omega), ?_⟩
        repeat walk_at "d"
        refine ⟨_, opSlS_ok (by omega), ?_⟩
        repeat walk_at "d"
        refine ⟨_, opAddS_ok (by omega), ?_⟩
        exact hR _ rfl
      · repeat walk_at "d"
        exact ⟨rfl, _, z, _, ⟨h8 _, nodup8 (fun i j hi hj e => by
          have e1 := Str_mid e
          have b1 := Int.emod_nonneg (turn + 3 * (i : Int)) (show (26 : Int) ≠ 0 by decide)
          have b2 := Int.emod_nonneg (turn + 3 * (j : Int)) (show (26 : Int) ≠ 0 by decide)
          omega), all8 fun i => strOk_app (strOk_app (strOk_cut zok) (strOk_one (Int.emod_nonneg _ (by decide)) (Int.emod_lt_of_pos _ (by decide)))) (strOk_cut zok)⟩, rfl⟩
    · rintro ρ n' ⟨rfl, ns, z, j6, ⟨hn, hnd, hok⟩, rfl⟩
      obtain ⟨t, rfl⟩ := Int.eq_ofNat_of_zero_le t0
      have ht : t ≤ (ns.map PyData.str).length := by rw [List.length_map]; omega
      repeat walk_at "d"
      refine ⟨_, opCat_okW (a := cutD (ns.map PyData.str) (some (t : Int)) none) (b := cutD (ns.map PyData.str) none (some (t : Int))) (by rw [cut_hiW _ _ ht, cut_loW _ _ ht, List.length_drop, List.length_take, List.length_map]; omega), ?_⟩
      rw [cut_hiW _ _ ht, cut_loW _ _ ht, ← List.map_drop, ← List.map_take, ← List.map_append]
      have hp : (ns.drop t ++ ns.take t).Perm ns := by
        refine List.perm_append_comm.trans ?_
        rw [List.take_append_drop]
      refine h _ (by rw [List.length_append, List.length_drop, List.length_take]; omega) ?_ ?_
      · exact hp.nodup_iff.mpr hnd
      · exact fun s hs => hok s (hp.mem_iff.mp hs)
end

end
section
variable [Bas] [Tabz] {P : Program} {w : World} {K : PySem.W.Frag} {mg : Str → Option Value} {base : Heap}
local instance (priority := high) yoFamL0 : Fam := famS
local macro_rules | `(tactic| walk_at "s") => `(tactic| first | refine Or.inl ⟨_, rfl, ?_⟩ | refine ⟨Nat.le_of_ble_eq_true rfl, ?_⟩ | refine ⟨_, rfl, ?_⟩ | refine ⟨_, _, rfl, ?_⟩ | refine ⟨.inr _, rfl, ?_⟩)
/-! ### accounts: an instance of the store, its dicts beside it -/
abbrev accN : List Str := ["_cash", "_holdings"]
def accF (c h : Addr) : List (Str × PyData) := [("_cash", hnd c), ("_holdings", hnd h)]
theorem accF_c (c h : Addr) : (accF c h).lookup ("_cash" : Str) = some (hnd c) := rfl
theorem accF_h (c h : Addr) : (accF c h).lookup ("_holdings" : Str) = some (hnd h) := by
  show List.lookup ("_holdings" : Str) [("_cash", hnd c), ("_holdings", hnd h)] = _
  rw [List.lookup_cons, show (("_holdings" : Str) == "_cash") = false by decide +kernel]
  rfl
theorem accF_no {m : Str} (h1 : m ≠ "_cash") (h2 : m ≠ "_holdings") (c h : Addr) : (accF c h).lookup m = none := by
  unfold accF
  rw [List.lookup_cons, beq_eq_false_iff_ne.mpr h1, List.lookup_cons, beq_eq_false_iff_ne.mpr h2]
  rfl
theorem hnd_inj {a b : Addr} (h : hnd a = hnd b) : a = b := by
  unfold hnd at h
  injection h with h
  injection h with h _
  injection h with _ h
  injection h with h
  exact Int.ofNat.inj h
/-- the keys of a dict: unlike texts of a list -/
def KIn (kvs : List (Key × PyData)) (L : List Str) : Prop := ∃ ks : List Str, kvs.map (·.1) = ks.map Sum.inr ∧ ks.Nodup ∧ ∀ k ∈ ks, k ∈ L
theorem KIn.nil {L : List Str} : KIn [] L := ⟨[], rfl, .nil, fun k hk => (by cases hk)⟩
theorem KIn.len {kvs : List (Key × PyData)} {L : List Str} (h : KIn kvs L) : kvs.length ≤ L.length := by
  obtain ⟨ks, h1, h2, h3⟩ := h
  have e := congrArg List.length h1
  rw [List.length_map, List.length_map] at e
  rw [e]
  exact nodup_len h2 h3
theorem valD_none {kvs : List (Key × PyData)} {k : Key} : valD kvs k = none ↔ k ∉ kvs.map (·.1) := by
  unfold valD
  rw [Option.map_eq_none_iff, List.find?_eq_none]
  constructor
  · intro h z
    obtain ⟨kv, h1, h2⟩ := List.mem_map.mp z
    exact h kv h1 (decide_eq_true h2)
  · intro h kv hkv z
    exact h (List.mem_map.mpr ⟨kv, hkv, of_decide_eq_true z⟩)
theorem any_key {kvs : List (Key × PyData)} {k : Key} : (kvs.any fun kv => decide (kv.1 = k)) = true ↔ k ∈ kvs.map (·.1) := by
  rw [List.any_eq_true]
  constructor
  · rintro ⟨kv, h1, h2⟩
    exact List.mem_map.mpr ⟨kv, h1, of_decide_eq_true h2⟩
  · intro z
    obtain ⟨kv, h1, h2⟩ := List.mem_map.mp z
    exact ⟨kv, h1, decide_eq_true h2⟩
theorem putKD_in {kvs : List (Key × PyData)} {k : Key} {d : PyData} (h : k ∈ kvs.map (·.1)) : (putKD kvs k d).map (·.1) = kvs.map (·.1) := by
  unfold putKD
  rw [if_pos (any_key.mpr h), List.map_map]
  apply List.map_congr_left
  intro kv _
  show (if kv.1 = k then (kv.1, d) else kv).1 = kv.1
  split <;> rfl
theorem putKD_out {kvs : List (Key × PyData)} {k : Key} {d : PyData} (h : k ∉ kvs.map (·.1)) : (putKD kvs k d).map (·.1) = kvs.map (·.1) ++ [k] := by
  unfold putKD
  rw [if_neg (fun z => h (any_key.mp z)), List.map_append]
  rfl
theorem KIn.put {kvs : List (Key × PyData)} {L : List Str} (h : KIn kvs L) {k : Str} (hk : k ∈ L) (d : PyData) : KIn (putKD kvs (.inr k) d) L := by
  obtain ⟨ks, h1, h2, h3⟩ := h
  by_cases e : (Sum.inr k : Key) ∈ kvs.map (·.1)
  · exact ⟨ks, by rw [putKD_in e, h1], h2, h3⟩
  · refine ⟨ks ++ [k], by rw [putKD_out e, h1, List.map_append]; rfl, ?_, fun x hx => ?_⟩
    · refine List.nodup_append.mpr ⟨h2, List.pairwise_singleton _ _, fun a ha b hb z => ?_⟩
      rw [List.mem_singleton] at hb
      refine e ?_
      rw [h1, ← hb, ← z]
      exact List.mem_map_of_mem ha
    · rcases List.mem_append.mp hx with z | z
      · exact h3 x z
      · rw [List.mem_singleton.mp z]
        exact hk
structure AccR (C : Addr) (S : Sto) (x : Addr) (Ft : Addr → Prop) (OW TH : List Str) (cash : Str → Int) (hold : Str → Str → Int) (c h : Addr) (cs os : List (Key × PyData)) : Prop where
  ax : S x = some (.ins C (accF c h))
  ac : S c = some (.dK cs)
  ah : S h = some (.dK os)
  ch : c ≠ h
  ft : Ft x ∧ Ft c ∧ Ft h
  cash : ∀ o : Str, (valD cs (.inr o)).getD (.int 0) = .int (cash o)
  none_ : ∀ o : Str, valD os (.inr o) = none → ∀ t, hold o t = 0
  some_ : ∀ (o : Str) d, valD os (.inr o) = some d → ∃ a ts, d = hnd a ∧ S a = some (.dK ts) ∧ a ≠ c ∧ a ≠ h ∧ Ft a ∧ KIn ts TH ∧ ∀ t : Str, (valD ts (.inr t)).getD (.int 0) = .int (hold o t)
  inj : ∀ (o o' : Str) a, valD os (.inr o) = some (hnd a) → valD os (.inr o') = some (hnd a) → o = o'
  kc : KIn cs OW
  kh : KIn os OW
  few : OW.length ≤ 15 ∧ TH.length ≤ 60
def AccAt (C : Addr) (S : Sto) (x : Addr) (Ft : Addr → Prop) (OW TH : List Str) (cash : Str → Int) (hold : Str → Str → Int) : Prop := ∃ c h cs os, AccR C S x Ft OW TH cash hold c h cs os
/-- what isn't of the accounts stays -/
def Moved (S S' : Sto) (Ft Ft' : Addr → Prop) : Prop := ∀ b, S b ≠ none → ¬ Ft b → S' b = S b ∧ ¬ Ft' b
theorem Moved.trans {S S1 S2 : Sto} {F F1 F2 : Addr → Prop} (a : Moved S S1 F F1) (b : Moved S1 S2 F1 F2) : Moved S S2 F F2 := fun x h1 h2 => by
  obtain ⟨e1, e2⟩ := a x h1 h2
  obtain ⟨e3, e4⟩ := b x (by rw [e1]; exact h1) e2
  exact ⟨e3.trans e1, e4⟩
theorem ne_ins {S : Sto} {a b : Addr} {C : Addr} {fs : List (Str × PyData)} {kvs : List (Key × PyData)} (h1 : S a = some (.ins C fs)) (h2 : S b = some (.dK kvs)) : a ≠ b := fun e => by
  rw [e, h2] at h1
  cases h1
theorem plain2 {a b : PyData} : plainR [.d a, .d b] ∧ [DV.d a, .d b].length = 2 := plainOf_R (ds := [a, b]) rfl
theorem plain1 {a : PyData} : plainR [.d a] ∧ [DV.d a].length = 1 := plainOf_R (ds := [a]) rfl
theorem plain3 {a b c : PyData} : plainR [.d a, .d b, .d c] ∧ [DV.d a, .d b, .d c].length = 3 := plainOf_R (ds := [a, b, c]) rfl
theorem plain4 {a b c d : PyData} : plainR [.d a, .d b, .d c, .d d] ∧ [DV.d a, .d b, .d c, .d d].length = 4 := plainOf_R (ds := [a, b, c, d]) rfl
def mCash (C : Addr) : DM := fun rs n Q => ∃ (x : Addr) (o : Str) (Ft : Addr → Prop) (OW TH : List Str) (cash : Str → Int) (hold : Str → Str → Int), rs = [.d (hnd x), .d (.str o)] ∧ AccAt C n.2 x Ft OW TH cash hold ∧ Q (.d (.int (cash o))) n
theorem L_Accounts_cash {C : Addr} : ∀ rs n Q, mCash C rs n Q → plainR rs ∧ rs.length = 2 := by
  rintro rs n Q ⟨x, o, Ft, OW, TH, cash, hold, rfl, _⟩
  exact plain2
variable {CA : Addr}
abbrev s_Accounts_cash : Stmt := inClass (topS 2) 4
theorem sc_Accounts_cash : FnScope ["self", "owner"] ["self", "owner"] (defScope s_Accounts_cash) := ⟨rfl, rfl, rfl, by decide +kernel, rfl, by decide +kernel, by decide +kernel⟩
theorem ok_cash {f : Addr} {fd : FuncData} (F : Fun K "cash" "Accounts.cash" s_Accounts_cash f fd) (T : Txt mg) (TC_Accounts : ClsI K mg "Accounts" CA accN) : FnOk P w K mg base CX0 1 f fd ["self", "owner"] (spD (mCash CA)) := by
  apply okD F sc_Accounts_cash L_Accounts_cash
  case body =>
    intro cdv A outer s H E hr
    exact (psOne (psRet (pdGet2H (hu_of hr) (pdFld TC_Accounts.toInsC (by decide +kernel) (pdV (pv 0))) (pdV (pv 1)) (pdC pe_int) ⟨rfl, rfl, rfl, rfl⟩)))
  case data =>
    rintro rs n Q ⟨x, o, Ft, OW, TH, cash, hold, rfl, ⟨c, h, cs, os, R⟩, k⟩
    repeat walk_at "s"
    refine ⟨_, R.ax, _, accF_c c h, ?_⟩
    repeat walk_at "s"
    refine ⟨⟨_, dkv_of R.ac⟩, ?_⟩
    repeat walk_at "s"
    refine ⟨_, dkv_of R.ac, ?_⟩
    repeat walk_at "s"
    rw [R.cash]
    exact k
def mHolding (C : Addr) : DM := fun rs n Q => ∃ (x : Addr) (o t : Str) (Ft : Addr → Prop) (OW TH : List Str) (cash : Str → Int) (hold : Str → Str → Int), rs = [.d (hnd x), .d (.str o), .d (.str t)] ∧ AccAt C n.2 x Ft OW TH cash hold ∧ Q (.d (.int (hold o t))) n
theorem L_Accounts_holding {C : Addr} : ∀ rs n Q, mHolding C rs n Q → plainR rs ∧ rs.length = 3 := by
  rintro rs n Q ⟨x, o, t, Ft, OW, TH, cash, hold, rfl, _⟩
  exact plain3
abbrev s_Accounts_holding : Stmt := inClass (topS 2) 5
theorem sc_Accounts_holding : FnScope ["self", "owner", "thing"] ["self", "owner", "thing"] (defScope s_Accounts_holding) := ⟨rfl, rfl, rfl, by decide +kernel, rfl, by decide +kernel, by decide +kernel⟩
theorem ok_holding {f : Addr} {fd : FuncData} (F : Fun K "holding" "Accounts.holding" s_Accounts_holding f fd) (T : Txt mg) (TC_Accounts : ClsI K mg "Accounts" CA accN) : FnOk P w K mg base CX0 1 f fd ["self", "owner", "thing"] (spD (mHolding CA)) := by
  apply okD F sc_Accounts_holding L_Accounts_holding
  case body =>
    intro cdv A outer s H E hr
    exact (psCons (psIf (ptNotInH (hu_of hr) (pdV (pv 1)) (pdFld TC_Accounts.toInsC (by decide +kernel) (pdV (pv 0)))) (psOne (psRet (pdC pe_int))) psNil)
          (psOne (psRet (pdGet2H (hu_of hr) (pdSG (pe_dget (hu_of hr) (pdFld TC_Accounts.toInsC (by decide +kernel) (pdV (pv 0))) (pdV (pv 1)) (fun _ _ => rfl))) (pdV (pv 2)) (pdC pe_int) ⟨rfl, rfl, rfl, rfl⟩))))
  case data =>
    rintro rs n Q ⟨x, o, t, Ft, OW, TH, cash, hold, rfl, ⟨c, h, cs, os, R⟩, k⟩
    repeat walk_at "s"
    refine ⟨_, R.ax, _, accF_h c h, ?_⟩
    repeat walk_at "s"
    refine ⟨_, dkv_of R.ah, ?_⟩
    cases e : valD os (.inr o) with
    | none =>
      rw [R.none_ o e t] at k
      repeat walk_at "s"
      exact k
    | some d =>
      obtain ⟨a, ts, rfl, ea, _, _, _, _, et⟩ := R.some_ o d e
      repeat walk_at "s"
      refine ⟨_, R.ax, _, accF_h c h, ?_⟩
      repeat walk_at "s"
      refine ⟨_, dkv_of R.ah, _, e, ?_⟩
      repeat walk_at "s"
      refine ⟨⟨_, dkv_of ea⟩, ?_⟩
      repeat walk_at "s"
      refine ⟨_, dkv_of ea, ?_⟩
      repeat walk_at "s"
      rw [et]
      exact k
def updF (f : Str → Int) (o : Str) (v : Int) : Str → Int := fun p => if p = o then v else f p
def updH (f : Str → Str → Int) (o t : Str) (v : Int) : Str → Str → Int := fun p u => if p = o ∧ u = t then v else f p u
def mCredit (C : Addr) : DM := fun rs n Q => ∃ (x : Addr) (o : Str) (v : Int) (Ft : Addr → Prop) (OW TH : List Str) (cash : Str → Int) (hold : Str → Str → Int), rs = [.d (hnd x), .d (.str o), .d (.int v)] ∧ AccAt C n.2 x Ft OW TH cash hold ∧ o ∈ OW ∧
  ∀ S', AccAt C S' x Ft OW TH (updF cash o (cash o + v)) hold → Moved n.2 S' Ft Ft → Q (.d .none) (n.1, S')
theorem L_Accounts_credit {C : Addr} : ∀ rs n Q, mCredit C rs n Q → plainR rs ∧ rs.length = 3 := by
  rintro rs n Q ⟨x, o, t, Ft, OW, TH, cash, hold, rfl, _⟩
  exact plain3
abbrev s_Accounts_credit : Stmt := inClass (topS 2) 2
theorem sc_Accounts_credit : FnScope ["self", "owner", "cash"] ["self", "owner", "cash"] (defScope s_Accounts_credit) := ⟨rfl, rfl, rfl, by decide +kernel, rfl, by decide +kernel, by decide +kernel⟩
theorem ok_credit {f : Addr} {fd : FuncData} (F : Fun K "credit" "Accounts.credit" s_Accounts_credit f fd) (T : Txt mg) (TC_Accounts : ClsI K mg "Accounts" CA accN) (c_Accounts_cash : MCal P w K mg base CA 1 "cash" ["self", "owner"] (spD (mCash CA))) : FnOk P w K mg base CX0 2 f fd ["self", "owner", "cash"] (spD (mCredit CA)) := by
  apply okD F sc_Accounts_credit L_Accounts_credit
  case body =>
    intro cdv A outer s H E hr
    obtain ⟨f_Accounts_cash, fd_Accounts_cash, G_Accounts_cash, m_Accounts_cash, k_Accounts_cash, b_Accounts_cash⟩ := c_Accounts_cash
    exact (psOne (psSP (hu_of hr) (pdFld TC_Accounts.toInsC (by decide +kernel) (pdV (pv 0))) (pdV (pv 1)) (pdOp r2Add op_add (pdMeth (fun _ _ _ q => (L_Accounts_cash _ _ _ q).1) TC_Accounts.cl m_Accounts_cash G_Accounts_cash (hr.mono (by decide)) b_Accounts_cash pass0 (pdV (pv 0)) (paCons (pdV (pv 1)) paNil)) (pdV (pv 2)))))
  case data =>
    rintro rs ⟨n1, S⟩ Q ⟨x, o, v, Ft, OW, TH, cash, hold, rfl, ⟨c, h, cs, os, R⟩, hO, k⟩
    have kl := R.kc.len
    have fw := R.few
    have eax : S x = _ := R.ax
    repeat walk_at "s"
    refine ⟨_, R.ax, accF_no (by decide +kernel) (by decide +kernel) c h, ?_⟩
    repeat walk_at "s"
    refine ⟨x, o, Ft, OW, TH, cash, hold, rfl, ⟨c, h, cs, os, R⟩, ?_⟩
    repeat walk_at "s"
    refine ⟨_, R.ax, _, accF_c c h, ?_⟩
    repeat walk_at "s"
    refine ⟨_, R.ac, by omega, ?_⟩
    have xc := ne_ins R.ax R.ac
    refine k _ ⟨c, h, putKD cs (.inr o) (.int (cash o + v)), os, (sset_ne xc).trans R.ax, sset_eq, (sset_ne R.ch.symm).trans R.ah, R.ch, R.ft, fun p => ?_, R.none_, fun p d e => ?_, R.inj, R.kc.put hO _, R.kh, R.few⟩ fun b h1 h2 => ⟨sset_ne fun e => h2 (by rw [e]; exact R.ft.2.1), h2⟩
    · rw [valD_put]
      unfold updF
      by_cases e : p = o
      · rw [if_pos (by rw [e]), if_pos e]
        rfl
      · rw [if_neg (fun z => e (Sum.inr.inj z)), if_neg e]
        exact R.cash p
    · obtain ⟨a, ts, e1, e2, e3, e4, e5, e6, e7⟩ := R.some_ p d e
      exact ⟨a, ts, e1, (sset_ne e3).trans e2, e3, e4, e5, e6, e7⟩
def mSupply (C : Addr) : DM := fun rs n Q => ∃ (x : Addr) (o t : Str) (v : Int) (Ft : Addr → Prop) (OW TH : List Str) (cash : Str → Int) (hold : Str → Str → Int), rs = [.d (hnd x), .d (.str o), .d (.str t), .d (.int v)] ∧ AccAt C n.2 x Ft OW TH cash hold ∧ o ∈ OW ∧ t ∈ TH ∧
  ∀ S' Ft', AccAt C S' x Ft' OW TH cash (updH hold o t (hold o t + v)) → Moved n.2 S' Ft Ft' → Q (.d .none) (n.1, S')
theorem L_Accounts_supply {C : Addr} : ∀ rs n Q, mSupply C rs n Q → plainR rs ∧ rs.length = 4 := by
  rintro rs n Q ⟨x, o, t, v, Ft, OW, TH, cash, hold, rfl, _⟩
  exact plain4
abbrev s_Accounts_supply : Stmt := inClass (topS 2) 3
theorem sc_Accounts_supply : FnScope ["self", "owner", "thing", "amount", "holdings"] ["self", "owner", "thing", "amount"] (defScope s_Accounts_supply) := ⟨rfl, rfl, rfl, by decide +kernel, rfl, by decide +kernel, by decide +kernel⟩
theorem ok_supply {f : Addr} {fd : FuncData} (F : Fun K "supply" "Accounts.supply" s_Accounts_supply f fd) (T : Txt mg) (TC_Accounts : ClsI K mg "Accounts" CA accN) : FnOk P w K mg base CX0 1 f fd ["self", "owner", "thing", "amount"] (spD (mSupply CA)) := by
  apply okD F sc_Accounts_supply L_Accounts_supply
  case body =>
    intro cdv A outer s H E hr
    exact (psCut (psIf (ptNotInH (hu_of hr) (pdV (pv 1)) (pdFld TC_Accounts.toInsC (by decide +kernel) (pdV (pv 0)))) (psOne (psSP (hu_of hr) (pdFld TC_Accounts.toInsC (by decide +kernel) (pdV (pv 0))) (pdV (pv 1)) (pdAbs (pdDNew pe_dnewK)))) psNil)
          (psCons (psSet (i := 4) sc_Accounts_supply.nd rfl (Or.inl rfl) (pdSG (pe_dget (hu_of hr) (pdFld TC_Accounts.toInsC (by decide +kernel) (pdV (pv 0))) (pdV (pv 1)) (fun _ _ => rfl))))
          (psOne (psSP (hu_of hr) (pdV (pv 4)) (pdV (pv 2)) (pdOp r2Add op_add (pdGet2H (hu_of hr) (pdV (pv 4)) (pdV (pv 2)) (pdC pe_int) ⟨rfl, rfl, rfl, rfl⟩) (pdV (pv 3)))))))
  case data =>
    rintro rs ⟨n1, S⟩ Q ⟨x, o, t, v, Ft, OW, TH, cash, hold, rfl, ⟨c, h, cs, os, R⟩, hO, hT, k⟩
    have kl := R.kh.len
    have fw := R.few
    have xh := ne_ins R.ax R.ah
    repeat walk_at "s"
    refine ⟨fun ρ (m : Int × Sto) => m.1 = n1 ∧ (∃ Ft' os' d, AccR CA m.2 x Ft' OW TH cash hold c h cs os' ∧ valD os' (.inr o) = some d ∧ Moved S m.2 Ft Ft') ∧ ρ = [.d (hnd x), .d (.str o), .d (.str t), .d (.int v), .un], ?_, ?_⟩
    · repeat walk_at "s"
      refine ⟨_, R.ax, _, accF_h c h, ?_⟩
      repeat walk_at "s"
      refine ⟨_, dkv_of R.ah, ?_⟩
      cases e : valD os (.inr o) with
      | some d =>
        repeat walk_at "s"
        refine ⟨rfl, ⟨Ft, os, d, ⟨R.ax, R.ac, R.ah, R.ch, R.ft, R.cash, R.none_, R.some_, R.inj, R.kc, R.kh, R.few⟩, e, fun b h1 h2 => ⟨rfl, h2⟩⟩, rfl⟩
      | none =>
        repeat walk_at "s"
        intro a ha
        have ha : S a = none := ha
        have na : ∀ {b : Addr} {z : SO}, S b = some z → b ≠ a := fun {b z} hb e => by
          rw [e, ha] at hb
          cases hb
        repeat walk_at "s"
        refine ⟨_, (sset_ne (na R.ax)).trans R.ax, _, accF_h c h, ?_⟩
        repeat walk_at "s"
        refine ⟨_, (sset_ne (na R.ah)).trans R.ah, by omega, ?_⟩
        have s2 : ∀ {b : Addr} {z : SO}, S b = some z → b ≠ h → sset (sset S a (.dK [])) h (.dK (putKD os (.inr o) (hnd a))) b = some z := fun {b z} hb e => (sset_ne e).trans ((sset_ne (na hb)).trans hb)
        repeat walk_at "s"
        refine ⟨rfl, ⟨fun b => Ft b ∨ b = a, putKD os (.inr o) (hnd a), hnd a, ⟨s2 R.ax xh, s2 R.ac R.ch, sset_eq, R.ch, ⟨.inl R.ft.1, .inl R.ft.2.1, .inl R.ft.2.2⟩, R.cash, fun p e1 => ?_, fun p d e1 => ?_, fun p p' b e1 e2 => ?_, R.kc, R.kh.put hO _, R.few⟩, ?_, fun b h1 h2 => ?_⟩, rfl⟩
        · rw [valD_put] at e1
          split at e1
          · cases e1
          · exact R.none_ p e1
        · rw [valD_put] at e1
          split at e1
          · rename_i hp
            cases e1
            refine ⟨a, [], rfl, (sset_ne (na R.ah).symm).trans sset_eq, (na R.ac).symm, (na R.ah).symm, .inr rfl, .nil, fun u => ?_⟩
            have := R.none_ o e u
            rw [Sum.inr.inj hp, this]
            rfl
          · obtain ⟨b, ts, e2, e3, e4, e5, e6, e7, e8⟩ := R.some_ p d e1
            exact ⟨b, ts, e2, s2 e3 e5, e4, e5, .inl e6, e7, e8⟩
        · rw [valD_put] at e1 e2
          split at e1 <;> split at e2 <;> rename_i h1 h2
          · rw [Sum.inr.inj h1, Sum.inr.inj h2]
          · cases e1
            obtain ⟨b', ts, e3, e4, _⟩ := R.some_ p' _ e2
            exact absurd (hnd_inj e3).symm (na e4)
          · cases e2
            obtain ⟨b', ts, e3, e4, _⟩ := R.some_ p _ e1
            exact absurd (hnd_inj e3).symm (na e4)
          · exact R.inj p p' b e1 e2
        · rw [valD_put, if_pos rfl]
        · have nb : b ≠ a := fun e => h1 (by rw [e]; exact ha)
          have nh : b ≠ h := fun e => h2 (by rw [e]; exact R.ft.2.2)
          exact ⟨(sset_ne nh).trans (sset_ne nb), fun z => z.elim h2 nb⟩
    · rintro ρ ⟨m1, S1⟩ ⟨e1, ⟨Ft', os', d, R', ed, mv⟩, rfl⟩
      have e1 : m1 = n1 := e1
      subst e1
      clear kl fw
      have kl := R'.kh.len
      have fw := R'.few
      obtain ⟨a, ts, rfl, ea, ac, ah, af, tk, et⟩ := R'.some_ o d ed
      have tl := tk.len
      repeat walk_at "s"
      refine ⟨_, R'.ax, _, accF_h c h, ?_⟩
      repeat walk_at "s"
      refine ⟨_, dkv_of R'.ah, _, ed, ?_⟩
      repeat walk_at "s"
      refine ⟨⟨_, dkv_of ea⟩, ?_⟩
      repeat walk_at "s"
      refine ⟨_, dkv_of ea, ?_⟩
      repeat walk_at "s"
      rw [et]
      repeat walk_at "s"
      refine ⟨_, ea, by omega, ?_⟩
      have xa := ne_ins R'.ax ea
      refine k _ Ft' ⟨c, h, cs, os', (sset_ne xa).trans R'.ax, (sset_ne ac.symm).trans R'.ac, (sset_ne ah.symm).trans R'.ah, R'.ch, R'.ft, R'.cash, fun p e u => ?_, fun p d e => ?_, R'.inj, R'.kc, R'.kh, R'.few⟩ (mv.trans fun b h1 h2 => ⟨sset_ne fun e => h2 (by rw [e]; exact af), h2⟩)
      · unfold updH
        rw [if_neg]
        · exact R'.none_ p e u
        · rintro ⟨z, _⟩
          rw [z, ed] at e
          cases e
      · obtain ⟨b, us, e1, e2, e3, e4, e5, e6, e7⟩ := R'.some_ p d e
        by_cases hp : p = o
        · subst hp
          rw [ed] at e
          cases e
          obtain rfl := hnd_inj e1
          refine ⟨a, _, rfl, sset_eq, ac, ah, af, tk.put hT _, fun u => ?_⟩
          · rw [valD_put]
            unfold updH
            by_cases hu : u = t
            · rw [if_pos (by rw [hu]), if_pos ⟨rfl, hu⟩]
              rfl
            · rw [if_neg (fun z => hu (Sum.inr.inj z)), if_neg (fun z => hu z.2)]
              exact et u
        · have nb : b ≠ a := fun z => hp (R'.inj p o a (by rw [e, e1, z]) ed)
          refine ⟨b, us, e1, (sset_ne nb).trans e2, e3, e4, e5, e6, fun u => ?_⟩
          unfold updH
          rw [if_neg (fun z => hp z.1)]
          exact e7 u
def tradeC (cash : Str → Int) (b s : Str) (m : Int) : Str → Int := updF (updF cash b (cash b - m)) s ((updF cash b (cash b - m)) s + m)
def tradeH (hold : Str → Str → Int) (t b s : Str) (m : Int) : Str → Str → Int := updH (updH hold b t (hold b t + m)) s t ((updH hold b t (hold b t + m)) s t - m)
def mTrade (C : Addr) : DM := fun rs n Q => ∃ (x : Addr) (t b s : Str) (p m : Int) (Ft : Addr → Prop) (OW TH : List Str) (cash : Str → Int) (hold : Str → Str → Int), rs = [.d (hnd x), .d (.str t), .d (.str b), .d (.str s), .d (.int p), .d (.int m)] ∧ AccAt C n.2 x Ft OW TH cash hold ∧ (b ∈ OW ∧ s ∈ OW ∧ t ∈ TH) ∧ Cnd (p.natAbs < 2 ^ 400 ∧ m.natAbs < 2 ^ 400) ∧
  ∀ S' Ft', AccAt C S' x Ft' OW TH (tradeC cash b s (p * m)) (tradeH hold t b s m) → Moved n.2 S' Ft Ft' → Q (.d .none) (n.1, S')
theorem L_Accounts_trade {C : Addr} : ∀ rs n Q, mTrade C rs n Q → plainR rs ∧ rs.length = 6 := by
  rintro rs n Q ⟨x, t, b, s, p, m, Ft, OW, TH, cash, hold, rfl, _⟩
  exact plainOf_R (ds := [_, _, _, _, _, _]) rfl
abbrev s_Accounts_trade : Stmt := inClass (topS 2) 1
theorem sc_Accounts_trade : FnScope ["self", "thing", "buyer", "seller", "price", "amount"] ["self", "thing", "buyer", "seller", "price", "amount"] (defScope s_Accounts_trade) := ⟨rfl, rfl, rfl, by decide +kernel, rfl, by decide +kernel, by decide +kernel⟩
theorem ok_trade {f : Addr} {fd : FuncData} (F : Fun K "trade" "Accounts.trade" s_Accounts_trade f fd) (T : Txt mg) (TC_Accounts : ClsI K mg "Accounts" CA accN) (c_Accounts_credit : MCal P w K mg base CA 2 "credit" ["self", "owner", "cash"] (spD (mCredit CA))) (c_Accounts_supply : MCal P w K mg base CA 1 "supply" ["self", "owner", "thing", "amount"] (spD (mSupply CA))) : FnOk P w K mg base CX0 3 f fd ["self", "thing", "buyer", "seller", "price", "amount"] (spD (mTrade CA)) := by
  apply okD F sc_Accounts_trade L_Accounts_trade
  case body =>
    intro cdv A outer s H E hr
    obtain ⟨f_Accounts_credit, fd_Accounts_credit, G_Accounts_credit, m_Accounts_credit, k_Accounts_credit, b_Accounts_credit⟩ := c_Accounts_credit
    obtain ⟨f_Accounts_supply, fd_Accounts_supply, G_Accounts_supply, m_Accounts_supply, k_Accounts_supply, b_Accounts_supply⟩ := c_Accounts_supply
    exact (psCons (psExp (pdMeth (fun _ _ _ q => (L_Accounts_credit _ _ _ q).1) TC_Accounts.cl m_Accounts_credit G_Accounts_credit (hr.mono (by decide)) b_Accounts_credit pass0 (pdV (pv 0)) (paCons (pdV (pv 2)) (paCons (pdOp r2Mul op_mulW (pdUn r1Neg un_neg (pdV (pv 4))) (pdV (pv 5))) paNil))))
          (psCons (psExp (pdMeth (fun _ _ _ q => (L_Accounts_credit _ _ _ q).1) TC_Accounts.cl m_Accounts_credit G_Accounts_credit (hr.mono (by decide)) b_Accounts_credit pass0 (pdV (pv 0)) (paCons (pdV (pv 3)) (paCons (pdOp r2Mul op_mulW (pdV (pv 4)) (pdV (pv 5))) paNil))))
          (psCons (psExp (pdMeth (fun _ _ _ q => (L_Accounts_supply _ _ _ q).1) TC_Accounts.cl m_Accounts_supply G_Accounts_supply (hr.mono (by decide)) b_Accounts_supply pass0 (pdV (pv 0)) (paCons (pdV (pv 2)) (paCons (pdV (pv 1)) (paCons (pdV (pv 5)) paNil)))))
          (psOne (psExp (pdMeth (fun _ _ _ q => (L_Accounts_supply _ _ _ q).1) TC_Accounts.cl m_Accounts_supply G_Accounts_supply (hr.mono (by decide)) b_Accounts_supply pass0 (pdV (pv 0)) (paCons (pdV (pv 3)) (paCons (pdV (pv 1)) (paCons (pdUn r1Neg un_neg (pdV (pv 5))) paNil)))))))))
  case data =>
    rintro rs ⟨n1, S⟩ Q ⟨x, t, b, s, p, m, Ft, OW, TH, cash, hold, rfl, A0, ⟨hbO, hsO, htT⟩, hb, k⟩
    obtain ⟨hp, hm⟩ := hb.get
    have ax : ∀ {S Ft OW TH cash hold}, AccAt CA S x Ft OW TH cash hold → ∃ fs, S x = some (.ins CA fs) ∧ fs.lookup ("credit" : Str) = none ∧ fs.lookup ("supply" : Str) = none := fun ⟨c, h, cs, os, R⟩ => ⟨_, R.ax, accF_no (by decide +kernel) (by decide +kernel) c h, accF_no (by decide +kernel) (by decide +kernel) c h⟩
    obtain ⟨fs0, g1, g2, _⟩ := ax A0
    repeat walk_at "s"
    refine ⟨_, g1, g2, ?_⟩
    repeat walk_at "s"
    have hp2 : (-p).natAbs < 2 ^ 400 := by rw [Int.natAbs_neg]; exact hp
    refine ⟨_, if_pos (decide_eq_true (mul_big hp2 hm)), ?_⟩
    repeat walk_at "s"
    refine ⟨x, b, -p * m, Ft, OW, TH, cash, hold, rfl, A0, hbO, fun S1 A1 M1 => ?_⟩
    obtain ⟨fs1, g1, g2, _⟩ := ax A1
    repeat walk_at "s"
    refine ⟨_, g1, g2, ?_⟩
    repeat walk_at "s"
    refine ⟨_, if_pos (decide_eq_true (mul_big hp hm)), ?_⟩
    repeat walk_at "s"
    refine ⟨x, s, p * m, Ft, _, _, _, _, rfl, A1, hsO, fun S2 A2 M2 => ?_⟩
    obtain ⟨fs2, g1, _, g2⟩ := ax A2
    repeat walk_at "s"
    refine ⟨_, g1, g2, ?_⟩
    repeat walk_at "s"
    refine ⟨x, b, t, m, Ft, _, _, _, _, rfl, A2, hbO, htT, fun S3 F3 A3 M3 => ?_⟩
    obtain ⟨fs3, g1, _, g2⟩ := ax A3
    repeat walk_at "s"
    refine ⟨_, g1, g2, ?_⟩
    repeat walk_at "s"
    refine ⟨x, s, t, -m, F3, _, _, _, _, rfl, A3, hsO, htT, fun S4 F4 A4 M4 => ?_⟩
    have e1 : updF (updF cash b (cash b + -p * m)) s ((updF cash b (cash b + -p * m)) s + p * m) = tradeC cash b s (p * m) := by
      unfold tradeC
      rw [show cash b + -p * m = cash b - p * m by rw [Int.neg_mul]; omega]
    rw [e1] at A4
    exact k S4 F4 A4 (((M1.trans M2).trans M3).trans M4)
def mInit (C : Addr) : DM := fun rs n Q => ∃ (x : Addr) (OW TH : List Str), rs = [.d (hnd x)] ∧ n.2 x = some (.ins C []) ∧ (OW.length ≤ 15 ∧ TH.length ≤ 60) ∧ ∀ S' Ft', AccAt C S' x Ft' OW TH (fun _ => 0) (fun _ _ => 0) → (∀ b, n.2 b ≠ none → b ≠ x → S' b = n.2 b ∧ ¬ Ft' b) → Q (.d .none) (n.1, S')
theorem L_Accounts_init {C : Addr} : ∀ rs n Q, mInit C rs n Q → plainR rs ∧ rs.length = 1 := by
  rintro rs n Q ⟨x, OW, TH, rfl, _⟩
  exact plain1
abbrev s_Accounts_init : Stmt := inClass (topS 2) 0
theorem sc_Accounts_init : FnScope ["self"] ["self"] (defScope s_Accounts_init) := ⟨rfl, rfl, rfl, by decide +kernel, rfl, by decide +kernel, by decide +kernel⟩
theorem ok_ainit {f : Addr} {fd : FuncData} (F : Fun K "__init__" "Accounts.__init__" s_Accounts_init f fd) (T : Txt mg) (TC_Accounts : ClsI K mg "Accounts" CA accN) : FnOk P w K mg base CX0 1 f fd ["self"] (spD (mInit CA)) := by
  apply okD F sc_Accounts_init L_Accounts_init
  case body =>
    intro cdv A outer s H E hr
    exact (psCons (psFldS TC_Accounts.toInsC (by decide +kernel) (pdV (pv 0)) (pdAbs (pdDNew pe_dnewK)))
          (psOne (psFldS TC_Accounts.toInsC (by decide +kernel) (pdV (pv 0)) (pdAbs (pdDNew pe_dnewK)))))
  case data =>
    rintro rs ⟨n1, S⟩ Q ⟨x, OW, TH, rfl, hx, few, k⟩
    have hx : S x = some (.ins CA []) := hx
    repeat walk_at "s"
    intro c hc
    have hc : S c = none := hc
    have xc : x ≠ c := fun e => by rw [e, hc] at hx; cases hx
    repeat walk_at "s"
    refine ⟨_, (sset_ne xc).trans hx, (by show 0 < 1000; decide), ?_⟩
    repeat walk_at "s"
    intro h hh
    have hh : sset (sset S c (.dK [])) x _ h = none := hh
    have xh : h ≠ x := fun e => by rw [e, sset_eq] at hh; cases hh
    rw [sset_ne xh] at hh
    have ch : h ≠ c := fun e => by rw [e, sset_eq] at hh; cases hh
    rw [sset_ne ch] at hh
    repeat walk_at "s"
    refine ⟨_, (sset_ne xh.symm).trans sset_eq, (by show 1 < 1000; decide), ?_⟩
    repeat walk_at "s"
    refine k _ (fun b => b = x ∨ b = c ∨ b = h) ⟨c, h, [], [], ⟨sset_eq, (sset_ne xc.symm).trans ((sset_ne ch.symm).trans ((sset_ne xc.symm).trans sset_eq)), (sset_ne xh).trans sset_eq, ch.symm, ⟨.inl rfl, .inr (.inl rfl), .inr (.inr rfl)⟩, fun _ => rfl, fun _ _ _ => rfl, fun _ _ e => (by cases e), fun _ _ _ e => (by cases e), .nil, .nil, few⟩⟩ fun b h1 h2 => ?_
    have h1 : S b ≠ none := h1
    have bc : b ≠ c := fun e => h1 (by rw [e]; exact hc)
    have bh : b ≠ h := fun e => h1 (by rw [e]; exact hh)
    exact ⟨(sset_ne h2).trans ((sset_ne bh).trans ((sset_ne h2).trans (sset_ne bc))), fun z => z.elim h2 fun z => z.elim bc bh⟩

end
section
variable [Bas] [Tabz] {P : Program} {w : World} {K : PySem.W.Frag} {mg : Str → Option Value} {base : Heap}
local instance (priority := high) yoFamL1 : Fam := famS
local macro_rules | `(tactic| walk_at "s") => `(tactic| first | refine Or.inl ⟨_, rfl, ?_⟩ | refine Or.inr ⟨rfl, ?_⟩ | refine ⟨Nat.le_of_ble_eq_true rfl, ?_⟩ | refine ⟨⟨_, rfl⟩, ?_⟩ | refine ⟨_, rfl, ?_⟩ | refine ⟨_, _, rfl, ?_⟩ | refine ⟨_, _, _, rfl, ?_⟩)
/-! ### accounts: what rows tells -/
def Grown (S S' : Sto) : Prop := ∀ b, S b ≠ none → S' b = S b
theorem Grown.refl {S : Sto} : Grown S S := fun _ _ => rfl
theorem Grown.trans {S S1 S2 : Sto} (a : Grown S S1) (b : Grown S1 S2) : Grown S S2 := fun x h => by
  have e := a x h
  exact (b x (by rw [e]; exact h)).trans e
theorem Grown.new {S : Sto} {a : Addr} {o : SO} (h : S a = none) : Grown S (sset S a o) := fun b hb => sset_ne fun e => hb (by rw [e]; exact h)
theorem AccAt.frame {C : Addr} {S S' : Sto} {x : Addr} {Ft : Addr → Prop} {OW TH : List Str} {cash : Str → Int} {hold : Str → Str → Int} (h : AccAt C S x Ft OW TH cash hold) (k : ∀ b, Ft b → S' b = S b) : AccAt C S' x Ft OW TH cash hold := by
  obtain ⟨c, d, cs, os, R⟩ := h
  refine ⟨c, d, cs, os, (k x R.ft.1).trans R.ax, (k c R.ft.2.1).trans R.ac, (k d R.ft.2.2).trans R.ah, R.ch, R.ft, R.cash, R.none_, fun o e he => ?_, R.inj, R.kc, R.kh, R.few⟩
  obtain ⟨a, ts, h1, h2, h3, h4, h5, h6, h7⟩ := R.some_ o e he
  exact ⟨a, ts, h1, (k a h5).trans h2, h3, h4, h5, h6, h7⟩
theorem AccAt.shrink {C : Addr} {S : Sto} {x : Addr} {Ft : Addr → Prop} {OW TH : List Str} {cash : Str → Int} {hold : Str → Str → Int} (h : AccAt C S x Ft OW TH cash hold) : AccAt C S x (fun b => Ft b ∧ S b ≠ none) OW TH cash hold := by
  obtain ⟨c, d, cs, os, R⟩ := h
  refine ⟨c, d, cs, os, R.ax, R.ac, R.ah, R.ch, ⟨⟨R.ft.1, by rw [R.ax]; exact fun z => by cases z⟩, ⟨R.ft.2.1, by rw [R.ac]; exact fun z => by cases z⟩, ⟨R.ft.2.2, by rw [R.ah]; exact fun z => by cases z⟩⟩, R.cash, R.none_, fun o e he => ?_, R.inj, R.kc, R.kh, R.few⟩
  obtain ⟨a, ts, h1, h2, h3, h4, h5, h6, h7⟩ := R.some_ o e he
  exact ⟨a, ts, h1, h2, h3, h4, ⟨h5, by rw [h2]; exact fun z => by cases z⟩, h6, h7⟩
theorem AccAt.grown {C : Addr} {S S' : Sto} {x : Addr} {Ft : Addr → Prop} {OW TH : List Str} {cash : Str → Int} {hold : Str → Str → Int} (h : AccAt C S x Ft OW TH cash hold) (g : Grown S S') : AccAt C S' x (fun b => Ft b ∧ S b ≠ none) OW TH cash hold := h.shrink.frame fun b hb => g b hb.2
def HoldL (hold : Str → Int) (ts : List Str) : Prop := PyProof.Rows.sortedS ts = true ∧ ts.Nodup ∧ ∀ t, t ∈ ts ↔ hold t ≠ 0
theorem HoldL.uniq {hold : Str → Int} {a b : List Str} (ha : HoldL hold a) (hb : HoldL hold b) : a = b := sortedS_uniq ha.1 hb.1 ha.2.1 hb.2.1 fun x => (ha.2.2 x).trans (hb.2.2 x).symm
def pairD (hold : Str → Int) (t : Str) : PyData := .tuple [.str t, .int (hold t)]
def mHoldOf (C : Addr) : DM := fun rs n Q => ∃ (x : Addr) (o : Str) (Ft : Addr → Prop) (OW TH : List Str) (cash : Str → Int) (hold : Str → Str → Int), rs = [.d (hnd x), .d (.str o)] ∧ AccAt C n.2 x Ft OW TH cash hold ∧
  ∀ S' ts, Grown n.2 S' → HoldL (hold o) ts → Q (.d (.list (ts.map (pairD (hold o))))) (n.1, S')
theorem L_Accountsholdings_of {C : Addr} : ∀ rs n Q, mHoldOf C rs n Q → plainR rs ∧ rs.length = 2 := by
  rintro rs n Q ⟨x, o, Ft, OW, TH, cash, hold, rfl, _⟩
  exact plain2
theorem perm_txt {ks out : List Str} (p : out.Perm ks) : ∀ x, x ∈ out ↔ x ∈ ks := fun _ => p.mem_iff
abbrev s_Accountsholdings_of : Stmt := inClass (topS 2) 7
theorem sc_Accountsholdings_of : FnScope ["self", "owner", "holdings", "thing"] ["self", "owner"] (defScope s_Accountsholdings_of) := ⟨rfl, rfl, rfl, by decide +kernel, rfl, by decide +kernel, by decide +kernel⟩
theorem ok_hof {f : Addr} {fd : FuncData} (F : Fun K "_holdings_of" "Accounts._holdings_of" s_Accountsholdings_of f fd) (T : Txt mg) (TC_Accounts : ClsI K mg "Accounts" CA accN) : FnOk P w K mg base CX0 1 f fd ["self", "owner"] (spD (mHoldOf CA)) := by
  apply okD F sc_Accountsholdings_of L_Accountsholdings_of
  case body =>
    intro cdv A outer s H E hr
    exact (psCut (psSet (i := 2) sc_Accountsholdings_of.nd rfl (Or.inr rfl) (pdGet2H (hu_of hr) (pdFld TC_Accounts.toInsC (by decide +kernel) (pdV (pv 0))) (pdV (pv 1)) (pdAbs (pdDNew pe_dnewK)) ⟨rfl, rfl, rfl, rfl⟩))
          (psOne (psRet (pdCold ((pe_lc (own := [("thing", 3)]) rfl sc_Accountsholdings_of.nd (piList (pdSortDH (pe_callB (cr_sortedDS rfl) (by rfl) T.b_sorted (by decide +kernel) (pa_cons (pdV (pv 2)) pa_nil)))) (blkOk_by (N := ["self", "owner", "holdings", "thing"]) (sc := defScope s_Accountsholdings_of) (by decide +kernel)) (fun _ _ _ _ _ => (pgN (pg_name (i := 3) sc_Accountsholdings_of.nd rfl (Or.inl rfl)))) (fun _ _ _ _ _ => (pts_one (ptCmp r2Ne op_ne (pdSG (pe_dget (hu_of hr) (pdV (pv 2)) (pdV (pv 3)) (fun _ _ => rfl))) (pdC pe_int) (nomark _)))) (fun _ _ _ _ _ => (pdTup (paCons (pdV (pv 3)) (paCons (pdSG (pe_dget (hu_of hr) (pdV (pv 2)) (pdV (pv 3)) (fun _ _ => rfl))) paNil))))).imp (lc_le (by decide) (fun _ _ _ q => q)))))))
  case data =>
    rintro rs ⟨n1, S⟩ Q ⟨x, o, Ft, OW, TH, cash, hold, rfl, ⟨c, h, cs, os, R⟩, k⟩
    repeat walk_at "s"
    refine ⟨fun ρ (m : Int × Sto) => m.1 = n1 ∧ Grown S m.2 ∧ (∃ b kvs, m.2 b = some (.dK kvs) ∧ KIn kvs TH ∧ (∀ t : Str, (valD kvs (.inr t)).getD (.int 0) = .int (hold o t)) ∧ ρ = [.d (hnd x), .d (.str o), .d (hnd b), .un]), ?_, ?_⟩
    · repeat walk_at "s"
      refine ⟨_, R.ax, _, accF_h c h, ?_⟩
      repeat walk_at "s"
      refine ⟨⟨_, dkv_of R.ah⟩, ?_⟩
      repeat walk_at "s"
      refine ⟨.inr o, rfl, ?_⟩
      intro a ha
      have ha : S a = none := ha
      have rah : S h = some (.dK os) := R.ah
      have ah2 : sset S a (.dK []) h = some (.dK os) := (sset_ne fun e => by rw [← e, rah] at ha; cases ha).trans rah
      repeat walk_at "s"
      refine ⟨_, dkv_of ah2, ?_⟩
      repeat walk_at "s"
      cases e : valD os (.inr o) with
      | none =>
        repeat walk_at "s"
        refine ⟨rfl, Grown.new ha, a, [], sset_eq, .nil, fun t => ?_, rfl⟩
        rw [R.none_ o e t]
        rfl
      | some d =>
        obtain ⟨b, ts, rfl, eb, _, _, _, tk, et⟩ := R.some_ o d e
        have eb : S b = some (.dK ts) := eb
        repeat walk_at "s"
        exact ⟨rfl, Grown.new ha, b, ts, (sset_ne fun e => by rw [e, ha] at eb; cases eb).trans eb, tk, et, rfl⟩
    · rintro ρ ⟨m1, S1⟩ ⟨e1, gr, b, kvs, hb, hk, hv, rfl⟩
      have e1 : m1 = n1 := e1
      subst e1
      have hb : S1 b = some (.dK kvs) := hb
      obtain ⟨ks, k1, k2, k3⟩ := hk
      have kl := nodup_len k2 k3
      have fw := R.few.2
      repeat walk_at "s"
      refine ⟨b, kvs, rfl, hb, ks, k1, by omega, fun out pm so => ?_⟩
      have ol := pm.length_eq
      repeat walk_at "s"
      have at_ : ∀ t ∈ out, valD kvs (.inr t) = some (.int (hold o t)) := fun t ht => by
        have z := hv t
        cases e : valD kvs (.inr t) with
        | none =>
          refine absurd ?_ (valD_none.mp e)
          rw [k1]
          exact List.mem_map_of_mem (pm.mem_iff.mp ht)
        | some d =>
          rw [e] at z
          exact congrArg some z
      refine lcFMy (fun t : Str => decide (hold o t ≠ 0)) (pairD (hold o)) rfl (by omega) (fun t ht => ⟨_, rfl, fun R hR => ?_, fun _ R hR => ?_⟩) ?_
      · have ht := at_ t ht
        repeat walk_at "s"
        refine ⟨.inr t, rfl, kvs, dkv_of hb, _, ht, ?_⟩
        repeat walk_at "s"
        rw [decide_not] at hR
        exact hR
      · have ht := at_ t ht
        repeat walk_at "s"
        refine ⟨.inr t, rfl, kvs, dkv_of hb, _, ht, ?_⟩
        repeat walk_at "s"
        exact hR _ rfl
      · refine k S1 _ gr ⟨sortedS_sub so List.filter_sublist, List.filter_sublist.nodup (pm.nodup_iff.mpr k2), fun t => ?_⟩
        rw [List.mem_filter, decide_eq_true_iff, pm.mem_iff]
        refine ⟨fun z => z.2, fun z => ⟨?_, z⟩⟩
        refine Classical.byContradiction fun no => z ?_
        have z2 := hv t
        rw [valD_none.mpr (fun q => no ?_)] at z2
        · exact (PyData.int.inj z2).symm
        · rw [k1] at q
          obtain ⟨y, hy, e⟩ := List.mem_map.mp q
          exact Sum.inr.inj e ▸ hy
/-- who has anything but 0 -/
def live (cash : Str → Int) (hold : Str → Str → Int) (o : Str) : Prop := cash o ≠ 0 ∨ ∃ t, hold o t ≠ 0
def rowD (cash : Str → Int) (hold : Str → Str → Int) (r : Str × List Str) : PyData := .tuple [.str r.1, .int (cash r.1), .list (r.2.map (pairD (hold r.1)))]
structure RowsL (cash : Str → Int) (hold : Str → Str → Int) (l : List (Str × List Str)) : Prop where
  so : PyProof.Rows.sortedS (l.map (·.1)) = true
  nd : (l.map (·.1)).Nodup
  mem : ∀ o, o ∈ l.map (·.1) ↔ live cash hold o
  own : ∀ r ∈ l, HoldL (hold r.1) r.2
theorem pairs_eq {P : Str → List Str → Prop} (hu : ∀ o a b, P o a → P o b → a = b) : ∀ {a b : List (Str × List Str)}, a.map (·.1) = b.map (·.1) → (∀ r ∈ a, P r.1 r.2) → (∀ r ∈ b, P r.1 r.2) → a = b
  | [], [], _, _, _ => rfl
  | [], _ :: _, e, _, _ => by cases e
  | _ :: _, [], e, _, _ => by cases e
  | (x, xs) :: a, (y, ys) :: b, e, ha, hb => by
    rw [List.map_cons, List.map_cons] at e
    injection e with e1 e2
    have e1 : x = y := e1
    subst e1
    have h1 : P x xs := ha _ List.mem_cons_self
    have h2 : P x ys := hb _ List.mem_cons_self
    rw [hu x xs ys h1 h2, pairs_eq hu e2 (fun r hr => ha r (List.mem_cons_of_mem _ hr)) fun r hr => hb r (List.mem_cons_of_mem _ hr)]
theorem RowsL.uniq {cash : Str → Int} {hold : Str → Str → Int} {a b : List (Str × List Str)} (ha : RowsL cash hold a) (hb : RowsL cash hold b) : a = b :=
  pairs_eq (P := fun o ts => HoldL (hold o) ts) (fun _ _ _ h1 h2 => h1.uniq h2) (sortedS_uniq ha.so hb.so ha.nd hb.nd fun x => (ha.mem x).trans (hb.mem x).symm) ha.own hb.own
open Classical in
theorem filter_snocY {α : Type} {p : α → Prop} {l : List α} {i : Nat} {x : α} (h : l[i]? = some x) (e : p x) : (l.take (i + 1)).filter (fun o => decide (p o)) = (l.take i).filter (fun o => decide (p o)) ++ [x] := by
  rw [List.take_succ, h, List.filter_append]
  congr 1
  exact List.filter_cons_of_pos (decide_eq_true e)
open Classical in
theorem filter_snocN {α : Type} {p : α → Prop} {l : List α} {i : Nat} {x : α} (h : l[i]? = some x) (e : ¬ p x) : (l.take (i + 1)).filter (fun o => decide (p o)) = (l.take i).filter (fun o => decide (p o)) := by
  have z : [x].filter (fun o => decide (p o)) = [] := List.filter_cons_of_neg (by rw [decide_eq_false e]; exact fun z => by cases z)
  rw [List.take_succ, h, List.filter_append]
  show _ ++ [x].filter _ = _
  rw [z, List.append_nil]
theorem AccR.cash_key {C : Addr} {S : Sto} {x : Addr} {Ft : Addr → Prop} {OW TH : List Str} {cash : Str → Int} {hold : Str → Str → Int} {c h : Addr} {cs os : List (Key × PyData)} (R : AccR C S x Ft OW TH cash hold c h cs os) {o : Str} (n : cash o ≠ 0) : (Sum.inr o : Key) ∈ cs.map (·.1) := Classical.byContradiction fun no => n (by
  have z := R.cash o
  rw [valD_none.mpr no] at z
  exact (PyData.int.inj z).symm)
theorem AccR.hold_key {C : Addr} {S : Sto} {x : Addr} {Ft : Addr → Prop} {OW TH : List Str} {cash : Str → Int} {hold : Str → Str → Int} {c h : Addr} {cs os : List (Key × PyData)} (R : AccR C S x Ft OW TH cash hold c h cs os) {o t : Str} (n : hold o t ≠ 0) : (Sum.inr o : Key) ∈ os.map (·.1) := Classical.byContradiction fun no => n (R.none_ o (valD_none.mpr no) t)
theorem mem_inr {ks : List Str} {kvs : List (Key × PyData)} {x : Str} (e : kvs.map (·.1) = ks.map Sum.inr) : (Sum.inr x : Key) ∈ kvs.map (·.1) ↔ x ∈ ks := by
  rw [e]
  constructor
  · intro q
    obtain ⟨y, hy, e⟩ := List.mem_map.mp q
    exact Sum.inr.inj e ▸ hy
  · exact fun q => List.mem_map_of_mem q
theorem AccR.hold_thing {C : Addr} {S : Sto} {x : Addr} {Ft : Addr → Prop} {OW TH : List Str} {cash : Str → Int} {hold : Str → Str → Int} {c h : Addr} {cs os : List (Key × PyData)} (R : AccR C S x Ft OW TH cash hold c h cs os) {o t : Str} (n : hold o t ≠ 0) : o ∈ OW ∧ t ∈ TH := by
  obtain ⟨ks, k1, k2, k3⟩ := R.kh
  refine ⟨k3 _ ((mem_inr k1).mp (R.hold_key n)), ?_⟩
  cases e : valD os (.inr o) with
  | none => exact absurd (R.none_ o e t) n
  | some d =>
    obtain ⟨a, ts, _, _, _, _, _, ⟨ls, l1, l2, l3⟩, ht⟩ := R.some_ o d e
    refine l3 t ((mem_inr l1).mp (Classical.byContradiction fun no => n ?_))
    have z := ht t
    rw [valD_none.mpr no] at z
    exact (PyData.int.inj z).symm
theorem AccR.cash_owner {C : Addr} {S : Sto} {x : Addr} {Ft : Addr → Prop} {OW TH : List Str} {cash : Str → Int} {hold : Str → Str → Int} {c h : Addr} {cs os : List (Key × PyData)} (R : AccR C S x Ft OW TH cash hold c h cs os) {o : Str} (n : cash o ≠ 0) : o ∈ OW := by
  obtain ⟨ks, k1, k2, k3⟩ := R.kc
  exact k3 _ ((mem_inr k1).mp (R.cash_key n))
def mRows (C : Addr) : DM := fun rs n Q => ∃ (x : Addr) (Ft : Addr → Prop) (OW TH : List Str) (cash : Str → Int) (hold : Str → Str → Int), rs = [.d (hnd x)] ∧ AccAt C n.2 x Ft OW TH cash hold ∧
  ∀ S' l, Grown n.2 S' → RowsL cash hold l → Q (.own (l.map (rowD cash hold))) (n.1, S')
theorem L_Accounts_rows {C : Addr} : ∀ rs n Q, mRows C rs n Q → plainR rs ∧ rs.length = 1 := by
  rintro rs n Q ⟨x, Ft, OW, TH, cash, hold, rfl, _⟩
  exact plain1
abbrev s_Accounts_rows : Stmt := inClass (topS 2) 6
theorem sc_Accounts_rows : FnScope ["self", "told", "owner", "holdings"] ["self"] (defScope s_Accounts_rows) := ⟨rfl, rfl, rfl, by decide +kernel, rfl, by decide +kernel, by decide +kernel⟩
theorem ok_arows {f : Addr} {fd : FuncData} (F : Fun K "rows" "Accounts.rows" s_Accounts_rows f fd) (T : Txt mg) (TC_Accounts : ClsI K mg "Accounts" CA accN) (c_Accounts_cash : MCal P w K mg base CA 1 "cash" ["self", "owner"] (spD (mCash CA))) (c_Accountsholdings_of : MCal P w K mg base CA 1 "_holdings_of" ["self", "owner"] (spD (mHoldOf CA))) : FnOk P w K mg base CX0 2 f fd ["self"] (spD (mRows CA)) := by
  apply okD F sc_Accounts_rows L_Accounts_rows
  case body =>
    intro cdv A outer s H E hr
    obtain ⟨f_Accountsholdings_of, fd_Accountsholdings_of, G_Accountsholdings_of, m_Accountsholdings_of, k_Accountsholdings_of, b_Accountsholdings_of⟩ := c_Accountsholdings_of
    obtain ⟨f_Accounts_cash, fd_Accounts_cash, G_Accounts_cash, m_Accounts_cash, k_Accounts_cash, b_Accounts_cash⟩ := c_Accounts_cash
    exact (psCons (psSet (i := 1) sc_Accounts_rows.nd rfl (Or.inl rfl) (pdLst paNil))
          (psCons (psFor PassesOwn.never rfl (piList (pdSortUn (pe_callB (cr_sortedKT rfl) (by rfl) T.b_sorted (by decide +kernel) (pa_cons (pe_op op_orK (pe_callTy cr_setD (by rfl) T.b_set (by decide +kernel) (pa_cons (pdFld TC_Accounts.toInsC (by decide +kernel) (pdV (pv 0))) pa_nil)) (pe_callTy cr_setD (by rfl) T.b_set (by decide +kernel) (pa_cons (pdFld TC_Accounts.toInsC (by decide +kernel) (pdV (pv 0))) pa_nil))) pa_nil)))) (pgN (pg_name (i := 2) sc_Accounts_rows.nd rfl (Or.inl rfl)))
           (psCons (psSet (i := 3) sc_Accounts_rows.nd rfl (Or.inl rfl) (pdMeth (fun _ _ _ q => (L_Accountsholdings_of _ _ _ q).1) TC_Accounts.cl m_Accountsholdings_of G_Accountsholdings_of (hr.mono (by decide)) b_Accountsholdings_of pass0 (pdV (pv 0)) (paCons (pdV (pv 2)) paNil)))
            (psOne (psIf (PW.pt (pwOr (ptCmp r2Ne op_ne (pdMeth (fun _ _ _ q => (L_Accounts_cash _ _ _ q).1) TC_Accounts.cl m_Accounts_cash G_Accounts_cash (hr.mono (by decide)) b_Accounts_cash pass0 (pdV (pv 0)) (paCons (pdV (pv 2)) paNil)) (pdC pe_int) (nomark _)) (pwOr1 (ptTru (pdV (pv 3)) (by intro _; rfl))))) (psOne (psApp (by rfl) (pe_bm PySem.F.plainAttrs_list PySem.F.slot_list_append PySem.F.type_list_append mt_append (pv 1) (pa_cons (pdTup (paCons (pdV (pv 2)) (paCons (pdMeth (fun _ _ _ q => (L_Accounts_cash _ _ _ q).1) TC_Accounts.cl m_Accounts_cash G_Accounts_cash (hr.mono (by decide)) b_Accounts_cash pass0 (pdV (pv 0)) (paCons (pdV (pv 2)) paNil)) (paCons (pdV (pv 3)) paNil)))) pa_nil)))) psNil))))
          (psOne (psRetOwn (pv 1)))))
  case data =>
    rintro rs ⟨n1, S⟩ Q ⟨x, Ft, OW, TH, cash, hold, rfl, A0, k⟩
    obtain ⟨c, h, cs, os, R⟩ := id A0
    obtain ⟨ks, k1, k2, k3⟩ := R.kc
    obtain ⟨ls, l1, l2, l3⟩ := R.kh
    have kl := nodup_len k2 k3
    have ll := nodup_len l2 l3
    have fw := R.few.1
    repeat walk_at "s"
    refine ⟨_, R.ax, _, accF_c c h, ?_⟩
    repeat walk_at "s"
    refine ⟨c, cs, rfl, R.ac, ks, k1, by omega, ?_⟩
    repeat walk_at "s"
    refine ⟨_, R.ax, _, accF_h c h, ?_⟩
    repeat walk_at "s"
    refine ⟨h, os, rfl, R.ah, ls, l1, by omega, fun out so nd mo => ?_⟩
    repeat walk_at "s"
    have ol : out.length ≤ 30 := by
      have z := nodup_len (L := ks ++ ls) nd fun x hx => List.mem_append.mpr ((mo x).mp hx)
      rw [List.length_append] at z
      omega
    refine ⟨fun i ρ (m : Int × Sto) => m.1 = n1 ∧ Grown S m.2 ∧ ∃ (l : List (Str × List Str)) (j2 j3 : DV), l.map (·.1) = (out.take i).filter (fun o => open Classical in decide (live cash hold o)) ∧ (∀ r ∈ l, HoldL (hold r.1) r.2) ∧ ρ = [.d (hnd x), .own (l.map (rowD cash hold)), j2, j3], ⟨rfl, .refl, [], _, _, rfl, fun r hr => (by cases hr), rfl⟩, ?_, ?_⟩
    · rintro i d ρ ⟨m1, S1⟩ hd ⟨e1, gr, l, j2, j3, el, hl, rfl⟩
      have e1 : m1 = n1 := e1
      subst e1
      obtain ⟨o, ho, rfl⟩ := at_mapY hd
      have A1 := A0.grown gr
      have ll : l.length ≤ 30 := by
        have z := congrArg List.length el
        rw [List.length_map] at z
        rw [z]
        exact Nat.le_trans (List.filter_sublist.length_le) (Nat.le_trans (List.take_sublist _ _).length_le ol)
      obtain ⟨c1, h1, cs1, os1, RA⟩ := id A1
      repeat walk_at "s"
      refine ⟨_, RA.ax, accF_no (by decide +kernel) (by decide +kernel) c1 h1, ?_⟩
      repeat walk_at "s"
      refine ⟨x, o, _, OW, TH, cash, hold, rfl, A1, fun S2 ts gr2 ht => ?_⟩
      have gr3 := gr.trans gr2
      have A2 := A0.grown gr3
      clear RA A1
      obtain ⟨c1, h1, cs1, os1, RA⟩ := id A2
      have fin : ∀ {ρ : List DV}, (live cash hold o → ∃ j2 j3, ρ = [.d (hnd x), .own ((l ++ [(o, ts)]).map (rowD cash hold)), j2, j3]) → (¬ live cash hold o → ∃ j2 j3, ρ = [.d (hnd x), .own (l.map (rowD cash hold)), j2, j3]) → ∃ (l : List (Str × List Str)) (j2 j3 : DV), l.map (·.1) = (out.take (i + 1)).filter (fun o => open Classical in decide (live cash hold o)) ∧ (∀ r ∈ l, HoldL (hold r.1) r.2) ∧ ρ = [.d (hnd x), .own (l.map (rowD cash hold)), j2, j3] := fun {ρ} g1 g2 => by
        by_cases e : live cash hold o
        · obtain ⟨j2, j3, e3⟩ := g1 e
          refine ⟨l ++ [(o, ts)], j2, j3, by rw [filter_snocY ho e, List.map_append, el]; rfl, fun r hr => ?_, e3⟩
          rcases List.mem_append.mp hr with z | z
          · exact hl r z
          · rw [List.mem_singleton.mp z]
            exact ht
        · obtain ⟨j2, j3, e3⟩ := g2 e
          exact ⟨l, j2, j3, by rw [filter_snocN ho e, el], hl, e3⟩
      repeat walk_at "s"
      refine ⟨_, RA.ax, accF_no (by decide +kernel) (by decide +kernel) c1 h1, ?_⟩
      repeat walk_at "s"
      refine ⟨x, o, _, OW, TH, cash, hold, rfl, A2, ?_⟩
      repeat walk_at "s"
      refine ite2 (fun e => ?_) (fun e => ?_)
      · have e : cash o ≠ 0 := by simpa using e
        refine ⟨⟨_, rfl⟩, ?_⟩
        repeat walk_at "s"
        refine ⟨_, RA.ax, accF_no (by decide +kernel) (by decide +kernel) c1 h1, ?_⟩
        repeat walk_at "s"
        refine ⟨x, o, _, OW, TH, cash, hold, rfl, A2, ?_⟩
        repeat walk_at "s"
        exact ⟨by rw [List.length_map]; omega, rfl, gr3, fin (fun _ => ⟨_, _, by rw [List.map_append]; rfl⟩) (fun z => absurd (.inl e) z)⟩
      · have e : cash o = 0 := by simpa using e
        repeat walk_at "s"
        cases ts with
        | nil =>
          refine ⟨rfl, gr3, fin (fun z => ?_) fun _ => ⟨_, _, rfl⟩⟩
          rcases z with z | ⟨t, z⟩
          · exact absurd e z
          · exact absurd ((ht.2.2 t).mpr z) (fun q => by cases q)
        | cons t ts =>
          refine ⟨⟨_, rfl⟩, ?_⟩
          repeat walk_at "s"
          refine ⟨_, RA.ax, accF_no (by decide +kernel) (by decide +kernel) c1 h1, ?_⟩
          repeat walk_at "s"
          refine ⟨x, o, _, OW, TH, cash, hold, rfl, A2, ?_⟩
          repeat walk_at "s"
          exact ⟨by rw [List.length_map]; omega, rfl, gr3, fin (fun _ => ⟨_, _, by rw [List.map_append]; rfl⟩) (fun z => absurd (.inr ⟨t, (ht.2.2 t).mp List.mem_cons_self⟩) z)⟩
    · rintro ρ ⟨m1, S1⟩ ⟨e1, gr, l, j2, j3, el, hl, rfl⟩
      have e1 : m1 = n1 := e1
      subst e1
      rw [List.length_map, List.take_length] at el
      refine ⟨_, rfl, rfl, k S1 l gr ⟨?_, ?_, fun o => ?_, hl⟩⟩
      · rw [el]
        exact sortedS_sub so List.filter_sublist
      · rw [el]
        exact List.filter_sublist.nodup nd
      · rw [el, List.mem_filter, mo o]
        refine ⟨fun z => @of_decide_eq_true _ (Classical.propDecidable _) z.2, fun z => ⟨?_, @decide_eq_true _ (Classical.propDecidable _) z⟩⟩
        rcases z with z | ⟨t, z⟩
        · exact .inl ((mem_inr k1).mp (R.cash_key z))
        · exact .inr ((mem_inr l1).mp (R.hold_key z))

end
section
variable [Bas] [Tabz] {P : Program} {w : World} {K : PySem.W.Frag} {mg : Str → Option Value} {base : Heap}
local instance (priority := high) yoFamL2 : Fam := famS
local macro_rules | `(tactic| walk_at "s") => `(tactic| first | refine Or.inl ⟨_, rfl, ?_⟩ | refine Or.inr ⟨rfl, ?_⟩ | refine ⟨Nat.le_of_ble_eq_true rfl, ?_⟩ | refine ⟨⟨_, rfl⟩, ?_⟩ | refine ⟨_, rfl, ?_⟩ | refine ⟨_, _, rfl, ?_⟩ | refine ⟨_, _, _, rfl, ?_⟩)
/-! ### _law_sums_right -/
theorem intsOf_map : ∀ ns : List Int, intsOf (ns.map PyData.int) = some ns
  | [] => rfl
  | n :: ns => by
    show (intsOf (ns.map PyData.int)).map (n :: ·) = _
    rw [intsOf_map ns]
    rfl
theorem bSum_ints (ns : List Int) : bSum [.list (ns.map PyData.int)] = some (.d (.int ns.sum)) := by
  show (intsOf (ns.map PyData.int)).map _ = _
  rw [intsOf_map]
  rfl
theorem allInts {α : Type} (f : α → Int) (l : List α) : ((l.filter fun _ => true).map fun o => PyData.int (f o)) = (l.map f).map PyData.int := by
  rw [List.filter_eq_self.mpr (fun _ _ => rfl), List.map_map]
  rfl
theorem shaped_of {d : PyData} (h : d.canLay0 = true) (h2 : d.depth ≤ 64) : SeqAt.shaped d = true := by
  unfold SeqAt.shaped
  rw [h, Bool.true_and]
  exact decide_eq_true h2
theorem eq_self {d : PyData} (h : SeqAt.shaped d = true) : opEqD d d = some (.d (.bool true)) := by
  have hs : opEqD d d = some (.d (.bool (PyData.eqv d d))) := if_pos ⟨h, h⟩
  rw [hs, SeqAt.eqv_refl _ (SeqAt.canLay_of_shaped h)]
theorem pairs_lay {hold : Str → Int} : ∀ {ts : List Str}, (∀ t ∈ ts, PyData.strOk t = true) → PyData.canLayAll0 (ts.map (pairD hold)) = true ∧ PyData.depthAll (ts.map (pairD hold)) ≤ 1
  | [], _ => ⟨rfl, Nat.zero_le _⟩
  | t :: ts, h => by
    obtain ⟨h1, h2⟩ := pairs_lay (hold := hold) fun x hx => h x (List.mem_cons_of_mem _ hx)
    have h3 := h t List.mem_cons_self
    constructor
    · rw [List.map_cons]
      simp only [PyData.canLayAll0, h1, pairD, PyData.canLay0, h3, Bool.and_self]
    · simp only [List.map_cons, PyData.depthAll, pairD, PyData.depth]
      omega
theorem rowsD_lay {cash : Str → Int} {hold : Str → Str → Int} : ∀ {l : List (Str × List Str)}, (∀ r ∈ l, PyData.strOk r.1 = true ∧ ∀ t ∈ r.2, PyData.strOk t = true) → PyData.canLayAll0 (l.map (rowD cash hold)) = true ∧ PyData.depthAll (l.map (rowD cash hold)) ≤ 3
  | [], _ => ⟨rfl, Nat.zero_le _⟩
  | r :: l, h => by
    obtain ⟨h1, h2⟩ := rowsD_lay (cash := cash) (hold := hold) fun x hx => h x (List.mem_cons_of_mem _ hx)
    have h3 := h r List.mem_cons_self
    obtain ⟨h4, h5⟩ := pairs_lay (hold := hold r.1) h3.2
    constructor
    · rw [List.map_cons]
      simp only [PyData.canLayAll0, h1, rowD, PyData.canLay0, h3.1, h4, Bool.and_self]
    · simp only [List.map_cons, PyData.depthAll, rowD, PyData.depth]
      omega
theorem rowsD_shaped {cash : Str → Int} {hold : Str → Str → Int} {l : List (Str × List Str)} (h : ∀ r ∈ l, PyData.strOk r.1 = true ∧ ∀ t ∈ r.2, PyData.strOk t = true) : SeqAt.shaped (.list (l.map (rowD cash hold))) = true := by
  obtain ⟨h1, h2⟩ := rowsD_lay (cash := cash) (hold := hold) h
  refine shaped_of ?_ ?_
  · simp only [PyData.canLay0]
    exact h1
  · simp only [PyData.depth]
    omega
def mSums (C : Addr) : DM := fun rs n Q => ∃ (x : Addr) (Ft : Addr → Prop) (OW TH : List Str) (cash : Str → Int) (hold : Str → Str → Int), rs = [.d (hnd x), .d (.list (OW.map PyData.str)), .d (.list (TH.map PyData.str))] ∧ AccAt C n.2 x Ft OW TH cash hold ∧ (OW.Nodup ∧ TH.Nodup ∧ (OW.map cash).sum = 0 ∧ ∀ t ∈ TH, (OW.map fun o => hold o t).sum = 0) ∧ ((∀ o ∈ OW, PyData.strOk o = true) ∧ ∀ t ∈ TH, PyData.strOk t = true) ∧
  ∀ S', Grown n.2 S' → Q (.d (.bool true)) (n.1, S')
theorem L_sums_right {C : Addr} : ∀ rs n Q, mSums C rs n Q → plainR rs ∧ rs.length = 3 := by
  rintro rs n Q ⟨x, Ft, OW, TH, cash, hold, rfl, _⟩
  exact plain3
variable {CA : Addr}
abbrev s_law_sums_right : Stmt := topS 7
theorem sc_law_sums_right : FnScope ["accounts", "owners", "things", "thing", "due", "owner", "own", "pair"] ["accounts", "owners", "things"] (defScope s_law_sums_right) := ⟨rfl, rfl, rfl, by decide +kernel, rfl, by decide +kernel, by decide +kernel⟩
theorem ok_sums {f : Addr} {fd : FuncData} (F : Fun K "_law_sums_right" "_law_sums_right" s_law_sums_right f fd) (T : Txt mg) (TC_Accounts : ClsI K mg "Accounts" CA accN) (c_Accounts_cash : MCal P w K mg base CA 1 "cash" ["self", "owner"] (spD (mCash CA))) (c_Accounts_holding : MCal P w K mg base CA 1 "holding" ["self", "owner", "thing"] (spD (mHolding CA))) (c_Accounts_rows : MCal P w K mg base CA 2 "rows" ["self"] (spD (mRows CA))) : FnOk P w K mg base CX0 3 f fd ["accounts", "owners", "things"] (spD (mSums CA)) := by
  apply okD F sc_law_sums_right L_sums_right
  case body =>
    intro cdv A outer s H E hr
    obtain ⟨f_Accounts_cash, fd_Accounts_cash, G_Accounts_cash, m_Accounts_cash, k_Accounts_cash, b_Accounts_cash⟩ := c_Accounts_cash
    obtain ⟨f_Accounts_holding, fd_Accounts_holding, G_Accounts_holding, m_Accounts_holding, k_Accounts_holding, b_Accounts_holding⟩ := c_Accounts_holding
    obtain ⟨f_Accounts_rows, fd_Accounts_rows, G_Accounts_rows, m_Accounts_rows, k_Accounts_rows, b_Accounts_rows⟩ := c_Accounts_rows
    exact (psCons (psIf (ptCmp r2Ne op_ne (pdB rsSum (cr_sum rfl) (by rfl) T.b_sum (by decide +kernel) (paCons ((pe_lc (own := [("owner", 5)]) (tt := tYes) rfl sc_law_sums_right.nd (piList (pdV (pv 1))) (blkOk_by (N := ["accounts", "owners", "things", "thing", "due", "owner", "own", "pair"]) (sc := defScope s_law_sums_right) (by decide +kernel)) (fun _ _ _ _ _ => (pgN (pg_name (i := 5) sc_law_sums_right.nd rfl (Or.inl rfl)))) (fun _ _ _ _ _ => pts_nil) (fun _ _ _ _ _ => (pdMeth (fun _ _ _ q => (L_Accounts_cash _ _ _ q).1) TC_Accounts.cl m_Accounts_cash G_Accounts_cash (hr.mono (by decide)) b_Accounts_cash pass0 (pdV (pv 0)) (paCons (pdV (pv 5)) paNil)))).imp (lc_le (by decide) yes_le)) paNil)) (pdC pe_int) (nomark _)) (psOne (psRet (pdC pe_bl))) psNil)
          (psCons (psFor PassesOwn.never rfl (piList (pdV (pv 2))) (pgN (pg_name (i := 3) sc_law_sums_right.nd rfl (Or.inr rfl)))
           (psOne (psIf (ptCmp r2Ne op_ne (pdB rsSum (cr_sum rfl) (by rfl) T.b_sum (by decide +kernel) (paCons ((pe_lc (own := [("owner", 5)]) (tt := tYes) rfl sc_law_sums_right.nd (piList (pdV (pv 1))) (blkOk_by (N := ["accounts", "owners", "things", "thing", "due", "owner", "own", "pair"]) (sc := defScope s_law_sums_right) (by decide +kernel)) (fun _ _ _ _ _ => (pgN (pg_name (i := 5) sc_law_sums_right.nd rfl (Or.inl rfl)))) (fun _ _ _ _ _ => pts_nil) (fun _ _ _ _ _ => (pdMeth (fun _ _ _ q => (L_Accounts_holding _ _ _ q).1) TC_Accounts.cl m_Accounts_holding G_Accounts_holding (hr.mono (by decide)) b_Accounts_holding pass0 (pdV (pv 0)) (paCons (pdV (pv 5)) (paCons (pdV (pv 3)) paNil))))).imp (lc_le (by decide) yes_le)) paNil)) (pdC pe_int) (nomark _)) (psOne (psRet (pdC pe_bl))) psNil)))
          (psCons (psSet (i := 4) sc_law_sums_right.nd rfl (Or.inl rfl) (pdLst paNil))
          (psCons (psFor PassesOwn.never rfl (piList (pdSortS (pe_callB cr_sortedS (by rfl) T.b_sorted (by decide +kernel) (pa_cons (pdV (pv 1)) pa_nil)))) (pgN (pg_name (i := 5) sc_law_sums_right.nd rfl (Or.inr rfl)))
           (psCons ((ps_setLc (i := 6) (own := [("thing", 3)]) (tt := tYes) rfl sc_law_sums_right.nd rfl rfl (sw_true rfl rfl rfl (by decide +kernel)) (piList (pdSortS (pe_callB cr_sortedS (by rfl) T.b_sorted (by decide +kernel) (pa_cons (pdV (pv 2)) pa_nil)))) (blkOk_by (N := ["accounts", "owners", "things", "thing", "due", "owner", "own", "pair"]) (sc := defScope s_law_sums_right) (by decide +kernel)) (fun _ _ _ _ _ => (pgN (pg_name (i := 3) sc_law_sums_right.nd rfl (Or.inl rfl)))) (fun _ _ _ _ _ => pts_nil) (fun _ _ _ _ _ => (pdTup (paCons (pdV (pv 3)) (paCons (pdMeth (fun _ _ _ q => (L_Accounts_holding _ _ _ q).1) TC_Accounts.cl m_Accounts_holding G_Accounts_holding (hr.mono (by decide)) b_Accounts_holding pass0 (pdV (pv 0)) (paCons (pdV (pv 5)) (paCons (pdV (pv 3)) paNil))) paNil))))).imp (set_le2 (lc_le (by decide) yes_le)))
            (psFrz 6 (psCons ((ps_setLc (i := 6) (own := [("pair", 7)]) rfl sc_law_sums_right.nd rfl rfl (sw_true rfl rfl rfl (by decide +kernel)) (piList (pdV (pv 6))) (blkOk_by (N := ["accounts", "owners", "things", "thing", "due", "owner", "own", "pair"]) (sc := defScope s_law_sums_right) (by decide +kernel)) (fun _ _ _ _ _ => (pgN (pg_name (i := 7) sc_law_sums_right.nd rfl (Or.inl rfl)))) (fun _ _ _ _ _ => (pts_one (ptCmp r2Ne op_ne (pdIx r2IxT ix_tup (pdV (pv 7)) (pdC pe_int) (fun _ _ => rfl)) (pdC pe_int) (nomark _)))) (fun _ _ _ _ _ => (pdV (pv 7)))).imp (set_le2 (lc_le (by decide) (fun _ _ _ q => q))))
            (psFrz 6 (psOne (psIf (PW.pt (pwOr (ptCmp r2NeE (op_neE hr.units) (pdV (pv 6)) (pdLst paNil) (nomark _)) (pwOr1 (ptCmp r2Ne op_ne (pdMeth (fun _ _ _ q => (L_Accounts_cash _ _ _ q).1) TC_Accounts.cl m_Accounts_cash G_Accounts_cash (hr.mono (by decide)) b_Accounts_cash pass0 (pdV (pv 0)) (paCons (pdV (pv 5)) paNil)) (pdC pe_int) (nomark _))))) (psOne (psApp (by rfl) (pe_bm PySem.F.plainAttrs_list PySem.F.slot_list_append PySem.F.type_list_append mt_append (pv 4) (pa_cons (pdTup (paCons (pdV (pv 5)) (paCons (pdMeth (fun _ _ _ q => (L_Accounts_cash _ _ _ q).1) TC_Accounts.cl m_Accounts_cash G_Accounts_cash (hr.mono (by decide)) b_Accounts_cash pass0 (pdV (pv 0)) (paCons (pdV (pv 5)) paNil)) (paCons (pdV (pv 6)) paNil)))) pa_nil)))) psNil)))))))
          (psFrz 4 (psOne (psRet (pdCmp r2EqD (op_eqD hr.units) (pdMeth0 (fun _ _ _ q => (L_Accounts_rows _ _ _ q).1) TC_Accounts.cl m_Accounts_rows G_Accounts_rows (hr.mono (by decide)) b_Accounts_rows pass0 (pdV (pv 0))) (pdV (pv 4)) (nomark _)))))))))
  case data =>
    rintro rs ⟨n1, S⟩ Q ⟨x, Ft, OW, TH, cash, hold, rfl, A0, ⟨no, nt, s0, s1⟩, ⟨kO, kT⟩, k⟩
    obtain ⟨c, h, cs, os, R⟩ := id A0
    have fw := R.few
    repeat walk_at "s"
    refine lcFMy (fun _ : Str => true) (fun o => .int (cash o)) rfl (by omega) (fun o ho => ⟨_, rfl, fun Z hZ => ?_, fun _ Z hZ => ?_⟩) ?_
    · exact hZ
    · repeat walk_at "s"
      refine ⟨_, R.ax, accF_no (by decide +kernel) (by decide +kernel) c h, ?_⟩
      repeat walk_at "s"
      exact ⟨x, o, Ft, OW, TH, cash, hold, rfl, A0, hZ _ rfl⟩
    rw [allInts]
    repeat walk_at "s"
    refine ⟨_, bSum_ints _, ?_⟩
    rw [s0]
    repeat walk_at "s"
    refine ⟨fun i ρ m => m = (n1, S) ∧ ∃ j3, j3.isOwn = false ∧ ρ = [.d (hnd x), .d (.list (OW.map PyData.str)), .d (.list (TH.map PyData.str)), j3, .un, .un, .un, .un], ⟨rfl, _, rfl, rfl⟩, ?_, ?_⟩
    · rintro i d ρ m hd ⟨rfl, j3, hj, rfl⟩
      obtain ⟨t, ht, rfl⟩ := at_mapY hd
      have ht := List.mem_of_getElem? ht
      repeat walk_at "s"
      refine lcFMy (fun _ : Str => true) (fun o => .int (hold o t)) rfl (by omega) (fun o ho => ⟨_, rfl, fun Z hZ => ?_, fun _ Z hZ => ?_⟩) ?_
      · exact hZ
      · repeat walk_at "s"
        refine ⟨_, R.ax, accF_no (by decide +kernel) (by decide +kernel) c h, ?_⟩
        repeat walk_at "s"
        exact ⟨x, o, t, Ft, OW, TH, cash, hold, rfl, A0, hZ _ rfl⟩
      rw [allInts]
      repeat walk_at "s"
      refine ⟨_, bSum_ints _, ?_⟩
      rw [s1 t ht]
      repeat walk_at "s"
      exact ⟨rfl, _, rfl, rfl⟩
    · rintro ρ m ⟨rfl, j3, hj, rfl⟩
      repeat walk_at "s"
      refine ⟨OW, strsOf_map OW, by omega, fun out pm so => ?_⟩
      repeat walk_at "s"
      have ol := pm.length_eq
      refine ⟨fun i ρ m => m = (n1, S) ∧ ∃ (l : List (Str × List Str)) (j3 j5 j6 j7 : DV), l.map (·.1) = (out.take i).filter (fun o => open Classical in decide (live cash hold o)) ∧ (∀ r ∈ l, HoldL (hold r.1) r.2) ∧ (j3.isOwn = false ∧ j7.isOwn = false) ∧ ρ = [.d (hnd x), .d (.list (OW.map PyData.str)), .d (.list (TH.map PyData.str)), j3, .own (l.map (rowD cash hold)), j5, j6, j7], ?_, ?_, ?_⟩
      · exact ⟨rfl, [], _, _, _, _, rfl, fun r hr => (by cases hr), ⟨hj, rfl⟩, rfl⟩
      · rintro i d ρ m hd ⟨rfl, l, j3, j5, j6, j7, el, hl, ⟨h3, h7⟩, rfl⟩
        obtain ⟨o, ho, rfl⟩ := at_mapY hd
        have ll : l.length ≤ 15 := by
          have z := congrArg List.length el
          rw [List.length_map] at z
          rw [z]
          exact Nat.le_trans (List.filter_sublist.length_le) (Nat.le_trans (List.take_sublist _ _).length_le (by omega))
        repeat walk_at "s"
        refine ⟨TH, strsOf_map TH, by omega, fun outT pmT soT => ?_⟩
        have tl := pmT.length_eq
        repeat walk_at "s"
        refine lcFMy (fun _ : Str => true) (pairD (hold o)) (by show (!j3.isOwn && true) = true; rw [h3]; rfl) (by omega) (fun t ht => ⟨_, rfl, fun Z hZ => ?_, fun _ Z hZ => ?_⟩) ?_
        · exact hZ
        · repeat walk_at "s"
          refine ⟨_, R.ax, accF_no (by decide +kernel) (by decide +kernel) c h, ?_⟩
          repeat walk_at "s"
          refine ⟨x, o, t, Ft, OW, TH, cash, hold, rfl, A0, ?_⟩
          repeat walk_at "s"
          exact hZ _ rfl
        rw [List.filter_eq_self.mpr (fun _ _ => rfl)]
        repeat walk_at "s"
        refine lcFMy (fun t : Str => decide (hold o t ≠ 0)) (pairD (hold o)) (by show (!j7.isOwn && true) = true; rw [h7]; rfl) (by omega) (fun t ht => ⟨_, rfl, fun Z hZ => ?_, fun _ Z hZ => ?_⟩) ?_
        · rw [decide_not] at hZ
          repeat walk_at "s"
          exact hZ
        · repeat walk_at "s"
          exact hZ _ rfl
        have hts : HoldL (hold o) (outT.filter fun t => decide (hold o t ≠ 0)) := by
          refine ⟨sortedS_sub soT List.filter_sublist, List.filter_sublist.nodup (pmT.nodup_iff.mpr nt), fun t => ?_⟩
          rw [List.mem_filter, decide_eq_true_iff, pmT.mem_iff]
          exact ⟨fun z => z.2, fun z => ⟨(R.hold_thing z).2, z⟩⟩
        generalize (outT.filter fun t => decide (hold o t ≠ 0)) = ts at hts
        have fin : ∀ {ρ : List DV}, (live cash hold o → ∃ (j3 j5 j6 j7 : DV), (j3.isOwn = false ∧ j7.isOwn = false) ∧ ρ = [.d (hnd x), .d (.list (OW.map PyData.str)), .d (.list (TH.map PyData.str)), j3, .own ((l ++ [(o, ts)]).map (rowD cash hold)), j5, j6, j7]) → (¬ live cash hold o → ∃ (j3 j5 j6 j7 : DV), (j3.isOwn = false ∧ j7.isOwn = false) ∧ ρ = [.d (hnd x), .d (.list (OW.map PyData.str)), .d (.list (TH.map PyData.str)), j3, .own (l.map (rowD cash hold)), j5, j6, j7]) → ∃ (l : List (Str × List Str)) (j3 j5 j6 j7 : DV), l.map (·.1) = (out.take (i + 1)).filter (fun o => open Classical in decide (live cash hold o)) ∧ (∀ r ∈ l, HoldL (hold r.1) r.2) ∧ (j3.isOwn = false ∧ j7.isOwn = false) ∧ ρ = [.d (hnd x), .d (.list (OW.map PyData.str)), .d (.list (TH.map PyData.str)), j3, .own (l.map (rowD cash hold)), j5, j6, j7] := fun {ρ} g1 g2 => by
          by_cases e : live cash hold o
          · obtain ⟨j3, j5, j6, j7, e2, e3⟩ := g1 e
            refine ⟨l ++ [(o, ts)], j3, j5, j6, j7, by rw [filter_snocY ho e, List.map_append, el]; rfl, fun r hr => ?_, e2, e3⟩
            rcases List.mem_append.mp hr with z | z
            · exact hl r z
            · rw [List.mem_singleton.mp z]
              exact hts
          · obtain ⟨j3, j5, j6, j7, e2, e3⟩ := g2 e
            exact ⟨l, j3, j5, j6, j7, by rw [filter_snocN ho e, el], hl, e2, e3⟩
        repeat walk_at "s"
        cases ts with
        | nil =>
          repeat walk_at "s"
          refine ⟨_, R.ax, accF_no (by decide +kernel) (by decide +kernel) c h, ?_⟩
          repeat walk_at "s"
          refine ⟨x, o, Ft, OW, TH, cash, hold, rfl, A0, ?_⟩
          repeat walk_at "s"
          have nl : ∀ z : live cash hold o, cash o ≠ 0 := fun z => by
            rcases z with z | ⟨t, z⟩
            · exact z
            · exact absurd ((hts.2.2 t).mpr z) (fun q => by cases q)
          refine ite2 (fun e => ?_) (fun e => ?_)
          · have e : cash o ≠ 0 := by simpa using e
            refine ⟨⟨_, rfl⟩, ?_⟩
            repeat walk_at "s"
            refine ⟨_, R.ax, accF_no (by decide +kernel) (by decide +kernel) c h, ?_⟩
            repeat walk_at "s"
            refine ⟨x, o, Ft, OW, TH, cash, hold, rfl, A0, ?_⟩
            repeat walk_at "s"
            exact ⟨by rw [List.length_map]; omega, rfl, fin (fun _ => ⟨_, _, _, _, ⟨h3, h7⟩, by rw [List.map_append]; rfl⟩) (fun z => absurd (.inl e) z)⟩
          · have e : cash o = 0 := by simpa using e
            exact ⟨rfl, fin (fun z => absurd e (nl z)) fun _ => ⟨_, _, _, _, ⟨h3, h7⟩, rfl⟩⟩
        | cons t ts =>
          repeat walk_at "s"
          refine ⟨_, R.ax, accF_no (by decide +kernel) (by decide +kernel) c h, ?_⟩
          repeat walk_at "s"
          refine ⟨x, o, Ft, OW, TH, cash, hold, rfl, A0, ?_⟩
          repeat walk_at "s"
          exact ⟨by rw [List.length_map]; omega, rfl, fin (fun _ => ⟨_, _, _, _, ⟨h3, h7⟩, by rw [List.map_append]; rfl⟩) (fun z => absurd (.inr ⟨t, (hts.2.2 t).mp List.mem_cons_self⟩) z)⟩
      · rintro ρ m ⟨rfl, l, j3, j5, j6, j7, el, hl, hj, rfl⟩
        rw [List.length_map, List.take_length] at el
        have rl : RowsL cash hold l := by
          refine ⟨?_, ?_, fun o => ?_, hl⟩
          · rw [el]
            exact sortedS_sub so List.filter_sublist
          · rw [el]
            exact List.filter_sublist.nodup (pm.nodup_iff.mpr no)
          · rw [el, List.mem_filter, pm.mem_iff]
            refine ⟨fun z => @of_decide_eq_true _ (Classical.propDecidable _) z.2, fun z => ⟨?_, @decide_eq_true _ (Classical.propDecidable _) z⟩⟩
            rcases z with z | ⟨t, z⟩
            · exact R.cash_owner z
            · exact (R.hold_thing z).1
        repeat walk_at "s"
        refine ⟨_, R.ax, accF_no (by decide +kernel) (by decide +kernel) c h, ?_⟩
        repeat walk_at "s"
        refine ⟨x, Ft, OW, TH, cash, hold, rfl, A0, fun S2 l2 gr rl2 => ?_⟩
        obtain rfl := rl2.uniq rl
        have sh : SeqAt.shaped (.list (l2.map (rowD cash hold))) = true := rowsD_shaped fun r hr => by
          constructor
          · rcases (rl.mem r.1).mp (List.mem_map_of_mem hr) with z | ⟨t, z⟩
            · exact kO _ (R.cash_owner z)
            · exact kO _ (R.hold_thing z).1
          · intro t ht
            exact kT _ (R.hold_thing (((rl.own r hr).2.2 t).mp ht)).2
        repeat walk_at "s"
        refine ⟨_, eq_self sh, ?_⟩
        exact k S2 gr

end
section
variable [Tabz]
local macro_rules | `(tactic| walk_at "s") => `(tactic| first | refine Or.inl ⟨_, rfl, ?_⟩ | refine Or.inr ⟨rfl, ?_⟩ | refine ⟨Nat.le_of_ble_eq_true rfl, ?_⟩ | refine ⟨⟨_, rfl⟩, ?_⟩ | refine ⟨_, rfl, ?_⟩ | refine ⟨_, _, rfl, ?_⟩ | refine ⟨_, _, _, rfl, ?_⟩)
def spLaw (K : PySem.W.Frag) : Sp := fun vs H Q _ => ∃ (a : Addr) (ns : List Int), vs = [.ref a] ∧ SqL K H a (ns.map V.int) ∧ ns.length ≤ 63 ∧ (∀ z ∈ ns, Builtin.Int.intBits z ≤ 1048576) ∧ ∀ H', Q (.bl true) H'
/-! ### what trades sum to -/
structure Trd where
  thing : Str
  sell : Str
  buy : Str
  price : Int
  amount : Int
def Trd.dat (x : Trd) : PyData := .tuple [.str x.thing, .str x.sell, .str x.buy, .int x.price, .int x.amount]
def effC (x : Trd) (o : Str) : Int := (if o = x.sell then x.price * x.amount else 0) - (if o = x.buy then x.price * x.amount else 0)
def effH (x : Trd) (o t : Str) : Int := if t = x.thing then (if o = x.buy then x.amount else 0) - (if o = x.sell then x.amount else 0) else 0
def cashOf (l : List Trd) (o : Str) : Int := (l.map fun x => effC x o).sum
def holdOf (l : List Trd) (o t : Str) : Int := (l.map fun x => effH x o t).sum
theorem tradeC_at (cash : Str → Int) (b s : Str) (v : Int) (o : Str) : tradeC cash b s v o = cash o + ((if o = s then v else 0) - (if o = b then v else 0)) := by
  unfold tradeC updF
  by_cases h1 : o = s <;> by_cases h2 : o = b
  · subst h1 h2; simp only [if_true]; omega
  · subst h1; simp only [if_true, if_neg h2]; omega
  · subst h2; simp only [if_true, if_neg h1]; omega
  · simp only [if_neg h1, if_neg h2]; omega
theorem tradeH_at (hold : Str → Str → Int) (t b s : Str) (v : Int) (o u : Str) : tradeH hold t b s v o u = hold o u + (if u = t then (if o = b then v else 0) - (if o = s then v else 0) else 0) := by
  unfold tradeH updH
  by_cases h0 : u = t
  · subst h0
    by_cases h1 : o = s <;> by_cases h2 : o = b
    · subst h1 h2; simp only [and_true, if_true]; omega
    · subst h1; simp only [and_true, if_true, if_neg h2]; omega
    · subst h2; simp only [and_true, if_true, if_neg h1]; omega
    · simp only [and_true, if_true, if_neg h1, if_neg h2]; omega
  · simp only [h0, and_false, if_false]; omega
theorem sum_snoc {α : Type} (f : α → Int) (l : List α) (x : α) : ((l ++ [x]).map f).sum = (l.map f).sum + f x := by
  rw [List.map_append, List.sum_append]
  show _ + (f x + 0) = _
  omega
theorem sum_erase {α : Type} (f : α → Int) : ∀ (l : List α) (k : Nat) (x : α), l[k]? = some x → ((l.eraseIdx k).map f).sum = (l.map f).sum - f x
  | [], _, _, h => by cases h
  | y :: l, 0, x, h => by
    cases h
    rw [List.eraseIdx_cons_zero, List.map_cons, List.sum_cons]
    omega
  | y :: l, k + 1, x, h => by
    rw [List.eraseIdx_cons_succ, List.map_cons, List.map_cons, List.sum_cons, List.sum_cons, sum_erase f l k x (by simpa using h)]
    omega
theorem sum_plus {α : Type} (f g : α → Int) : ∀ l : List α, (l.map fun o => f o + g o).sum = (l.map f).sum + (l.map g).sum
  | [] => rfl
  | x :: l => by
    rw [List.map_cons, List.map_cons, List.map_cons, List.sum_cons, List.sum_cons, List.sum_cons, sum_plus f g l]
    omega
theorem sum_zero {α : Type} : ∀ l : List α, (l.map fun _ => (0 : Int)).sum = 0
  | [] => rfl
  | x :: l => by
    rw [List.map_cons, List.sum_cons, sum_zero l]
    rfl
theorem sum_at {a : Str} {v : Int} : ∀ {l : List Str}, l.Nodup → (l.map fun o => if o = a then v else 0).sum = if a ∈ l then v else 0
  | [], _ => rfl
  | x :: l, h => by
    have h1 := List.nodup_cons.mp h
    rw [List.map_cons, List.sum_cons, sum_at h1.2]
    by_cases e : x = a
    · subst e
      rw [if_pos rfl, if_neg h1.1, if_pos List.mem_cons_self]
      omega
    · rw [if_neg e]
      by_cases e2 : a ∈ l
      · rw [if_pos e2, if_pos (List.mem_cons_of_mem _ e2)]
        omega
      · rw [if_neg e2, if_neg]
        · omega
        · intro z
          rcases List.mem_cons.mp z with z | z
          · exact e z.symm
          · exact e2 z
theorem sum_two {a b : Str} {v : Int} {l : List Str} (h : l.Nodup) (ha : a ∈ l) (hb : b ∈ l) : (l.map fun o => (if o = a then v else 0) - (if o = b then v else 0)).sum = 0 := by
  have e := sum_plus (fun o => if o = a then v else 0) (fun o => if o = b then -v else 0) l
  rw [sum_at h, sum_at h, if_pos ha, if_pos hb] at e
  have e2 : (l.map fun o => (if o = a then v else 0) - (if o = b then v else 0)) = l.map fun o => (if o = a then v else 0) + (if o = b then -v else 0) := by
    apply List.map_congr_left
    intro o _
    split <;> split <;> omega
  rw [e2, e]
  omega
theorem cash_sum {OW : List Str} (h : OW.Nodup) : ∀ {l : List Trd}, (∀ x ∈ l, x.sell ∈ OW ∧ x.buy ∈ OW) → (OW.map (cashOf l)).sum = 0
  | [], _ => sum_zero OW
  | x :: l, hl => by
    have ih := cash_sum h fun y hy => hl y (List.mem_cons_of_mem _ hy)
    obtain ⟨hs, hb⟩ := hl x List.mem_cons_self
    have e : (OW.map (cashOf (x :: l))) = OW.map fun o => effC x o + cashOf l o := by
      apply List.map_congr_left
      intro o _
      rfl
    rw [e, sum_plus, ih]
    have z : (OW.map fun o => effC x o).sum = 0 := sum_two h hs hb
    rw [z]
    rfl
theorem hold_sum {OW : List Str} (h : OW.Nodup) (t : Str) : ∀ {l : List Trd}, (∀ x ∈ l, x.sell ∈ OW ∧ x.buy ∈ OW) → (OW.map fun o => holdOf l o t).sum = 0
  | [], _ => sum_zero OW
  | x :: l, hl => by
    have ih := hold_sum h t fun y hy => hl y (List.mem_cons_of_mem _ hy)
    obtain ⟨hs, hb⟩ := hl x List.mem_cons_self
    have e : (OW.map fun o => holdOf (x :: l) o t) = OW.map fun o => effH x o t + holdOf l o t := by
      apply List.map_congr_left
      intro o _
      rfl
    rw [e, sum_plus, ih]
    have z : (OW.map fun o => effH x o t).sum = 0 := by
      unfold effH
      by_cases e0 : t = x.thing
      · simp only [if_pos e0]
        exact sum_two h hb hs
      · simp only [if_neg e0]
        exact sum_zero OW
    rw [z]
    rfl
theorem trade_on (l : List Trd) (x : Trd) : tradeC (cashOf l) x.buy x.sell (x.price * x.amount) = cashOf (l ++ [x]) ∧ tradeH (holdOf l) x.thing x.buy x.sell x.amount = holdOf (l ++ [x]) :=
  ⟨funext fun o => (tradeC_at _ _ _ _ o).trans (sum_snoc (fun x => effC x o) l x).symm, funext fun o => funext fun t => (tradeH_at _ _ _ _ _ o t).trans (sum_snoc (fun x => effH x o t) l x).symm⟩
theorem trade_off {l : List Trd} {k : Nat} {x : Trd} (h : l[k]? = some x) : tradeC (cashOf l) x.sell x.buy (x.price * x.amount) = cashOf (l.eraseIdx k) ∧ tradeH (holdOf l) x.thing x.sell x.buy x.amount = holdOf (l.eraseIdx k) := by
  refine ⟨funext fun o => (tradeC_at _ _ _ _ o).trans ?_, funext fun o => funext fun t => (tradeH_at _ _ _ _ _ o t).trans ?_⟩
  · have e := sum_erase (fun x => effC x o) l k x h
    show cashOf l o + _ = cashOf (l.eraseIdx k) o
    unfold cashOf
    rw [e]
    show _ = _ - ((if o = x.sell then x.price * x.amount else 0) - (if o = x.buy then x.price * x.amount else 0))
    omega
  · have e := sum_erase (fun x => effH x o t) l k x h
    show holdOf l o t + _ = holdOf (l.eraseIdx k) o t
    unfold holdOf
    rw [e]
    show _ = _ - (if t = x.thing then (if o = x.buy then x.amount else 0) - (if o = x.sell then x.amount else 0) else 0)
    split <;> omega
theorem erase_map {α β : Type} (f : α → β) : ∀ (l : List α) (k : Nat), (l.map f).eraseIdx k = (l.eraseIdx k).map f
  | [], _ => rfl
  | _ :: _, 0 => rfl
  | x :: l, k + 1 => by
    show f x :: (l.map f).eraseIdx k = f x :: (l.eraseIdx k).map f
    rw [erase_map f l k]
theorem rows_nil {cash : Str → Int} {hold : Str → Str → Int} {l : List (Str × List Str)} (h : RowsL cash hold l) (h1 : ∀ o, cash o = 0) (h2 : ∀ o t, hold o t = 0) : l = [] := by
  cases l with
  | nil => rfl
  | cons r l =>
    rcases (h.mem r.1).mp List.mem_cons_self with z | ⟨t, z⟩
    · exact absurd (h1 _) z
    · exact absurd (h2 _ t) z
section
variable {P : Program} {w : World} {K : PySem.W.Frag} {mg : Str → Option Value} {base : Heap} {CA : Addr}
local instance (priority := high) yoFamL39 : Fam := famS
abbrev mDrawU : @DM famS := upM mDraw
theorem L_drawU : ∀ rs n Q, upM mDraw rs n Q → plainR rs ∧ rs.length = 2 := fun rs n Q h => L_draw rs n.1 _ h
theorem L_namesU : ∀ rs n Q, upM mNamesW rs n Q → plainR rs ∧ rs.length = 1 := fun rs n Q h => L_names rs n.1 _ h
abbrev s_law : Stmt := topS 8
theorem sc_law : FnScope ["script", "well", "names", "owners", "things", "accounts", "told", "turn", "great", "most", "thing", "buyer", "seller", "price", "amount"] ["script"] (defScope s_law) := ⟨rfl, rfl, rfl, by decide +kernel, rfl, by decide +kernel, by decide +kernel⟩
theorem ok_law {f : Addr} {fd : FuncData} (F : Fun K "law" "law" s_law f fd) (T : Txt mg) (TC_Accounts : ClsI K mg "Accounts" CA accN) (hT : ∀ H, LamX.Tabs Tabz.T H) (c_well : Cal P w K mg base 1 "_law_well" ["script"] (spWell K)) (c_draw : Cal P w K mg base 1 "_law_draw" ["well", "many"] (spD (upM mDraw))) (c_names : Cal P w K mg base 2 "_law_names" ["well"] (spD (upM mNamesW)))
    (c_sums_right : Cal P w K mg base 3 "_law_sums_right" ["accounts", "owners", "things"] (spD (mSums CA))) (c_Accounts_trade : MCal P w K mg base CA 3 "trade" ["self", "thing", "buyer", "seller", "price", "amount"] (spD (mTrade CA))) (c_Accounts_rows : MCal P w K mg base CA 2 "rows" ["self"] (spD (mRows CA))) (c_Accounts_init : MCal P w K mg base CA 1 "__init__" ["self"] (spD (mInit CA))) : FnOk P w K mg base CX0 6 f fd ["script"] (spLaw K) := by
  refine F.ok sc_law (fun vs H Q E h => ?_) (fun cdv A outer s H vs Q E hr h => ?_)
  · obtain ⟨a, ns, rfl, _⟩ := h
    rfl
  · obtain ⟨a, ns, rfl, hS, hlen, hb, k⟩ := h
    obtain ⟨f_Accounts_init, fd_Accounts_init, G_Accounts_init, m_Accounts_init, k_Accounts_init, b_Accounts_init⟩ := c_Accounts_init
    obtain ⟨f_Accounts_rows, fd_Accounts_rows, G_Accounts_rows, m_Accounts_rows, k_Accounts_rows, b_Accounts_rows⟩ := c_Accounts_rows
    obtain ⟨f_Accounts_trade, fd_Accounts_trade, G_Accounts_trade, m_Accounts_trade, k_Accounts_trade, b_Accounts_trade⟩ := c_Accounts_trade
    obtain ⟨f_draw, fd_draw, G_draw, m_draw, k_draw, b_draw⟩ := c_draw
    obtain ⟨f_names, fd_names, G_names, m_names, k_names, b_names⟩ := c_names
    obtain ⟨f_sums_right, fd_sums_right, G_sums_right, m_sums_right, k_sums_right, b_sums_right⟩ := c_sums_right
    obtain ⟨f_well, fd_well, G_well, m_well, k_well, b_well⟩ := c_well
    refine ⟨_, (pss_cons (ps_set (i := 1) sc_law.nd rfl (Or.inl rfl) (pe_call G_well (hr.mono (by decide)) rfl m_well k_well b_well .nil pass0 (pa_cons (pv 0) pa_nil)))
          (psCons (psSet (i := 2) sc_law.nd rfl (Or.inl rfl) (pdCall (fun _ _ _ q => (L_namesU _ _ _ q).1) G_names (hr.mono (by decide)) (by rfl) m_names k_names b_names pass0 (paCons (pdV (pv 1)) paNil)))
          (psCons (psPar (ps_par (i := 3) (j := 4) (by rfl) sc_law.nd rfl rfl (by decide) rfl rfl (paCons (pdSl slLD sl_list (pdV (pv 2)) poNone (poSome (pdC pe_int))) (paCons (pdSl slLD sl_list (pdV (pv 2)) (poSome (pdC pe_int)) (poSome (pdC pe_int))) paNil)) (by rfl)))
          (psCons (psSet (i := 5) sc_law.nd rfl (Or.inl rfl) (pdMake0 ⟨TC_Accounts.makes, m_Accounts_init.at_, m_Accounts_init.fn, TC_Accounts.kp⟩ G_Accounts_init (hr.mono (by decide)) (by rfl) TC_Accounts.mgc b_Accounts_init pass0))
          (psCons (psSet (i := 6) sc_law.nd rfl (Or.inl rfl) (pdAbs (pdLst paNil)))
          (psCons (psFor PassesOwn.never rfl (piRng (pi_range1 (by rfl) T.b_range (paCons (pdOp r2Add op_add (pdC pe_int) (pdCall (fun _ _ _ q => (L_drawU _ _ _ q).1) G_draw (hr.mono (by decide)) (by rfl) m_draw k_draw b_draw pass0 (paCons (pdV (pv 1)) (paCons (pdC pe_int) paNil)))) paNil))) (pgN (pg_name (i := 7) sc_law.nd rfl (Or.inl rfl)))
           (psCons (psSet (i := 8) sc_law.nd rfl (Or.inl rfl) (pdIx r2IxL ix_list (pdLst (paCons (pdC pe_int) (paCons (pdC pe_int) paNil))) (pdCall (fun _ _ _ q => (L_drawU _ _ _ q).1) G_draw (hr.mono (by decide)) (by rfl) m_draw k_draw b_draw pass0 (paCons (pdV (pv 1)) (paCons (pdC pe_int) paNil))) (fun _ _ => rfl)))
            (psCons (psSet (i := 9) sc_law.nd rfl (Or.inl rfl) (pdIx r2IxL ix_list (pdLst (paCons (pdC pe_int) (paCons (pdC pe_int) paNil))) (pdCall (fun _ _ _ q => (L_drawU _ _ _ q).1) G_draw (hr.mono (by decide)) (by rfl) m_draw k_draw b_draw pass0 (paCons (pdV (pv 1)) (paCons (pdC pe_int) paNil))) (fun _ _ => rfl)))
            (psCons (psSet (i := 10) sc_law.nd rfl (Or.inl rfl) (pdIx r2IxL ix_list (pdV (pv 4)) (pdCall (fun _ _ _ q => (L_drawU _ _ _ q).1) G_draw (hr.mono (by decide)) (by rfl) m_draw k_draw b_draw pass0 (paCons (pdV (pv 1)) (paCons (pdC pe_int) paNil))) (fun _ _ => rfl)))
            (psCons (psPar (ps_par (i := 11) (j := 12) (by rfl) sc_law.nd rfl rfl (by decide) rfl rfl (paCons (pdIx r2IxL ix_list (pdV (pv 3)) (pdCall (fun _ _ _ q => (L_drawU _ _ _ q).1) G_draw (hr.mono (by decide)) (by rfl) m_draw k_draw b_draw pass0 (paCons (pdV (pv 1)) (paCons (pdC pe_int) paNil))) (fun _ _ => rfl)) (paCons (pdIx r2IxL ix_list (pdV (pv 3)) (pdCall (fun _ _ _ q => (L_drawU _ _ _ q).1) G_draw (hr.mono (by decide)) (by rfl) m_draw k_draw b_draw pass0 (paCons (pdV (pv 1)) (paCons (pdC pe_int) paNil))) (fun _ _ => rfl)) paNil)) (by rfl)))
            (psCons (psPar (ps_par (i := 13) (j := 14) (by rfl) sc_law.nd rfl rfl (by decide) rfl rfl (paCons (pdOp r2Add op_add (pdC pe_int) (pdCall (fun _ _ _ q => (L_drawU _ _ _ q).1) G_draw (hr.mono (by decide)) (by rfl) m_draw k_draw b_draw pass0 (paCons (pdV (pv 1)) (paCons (pdV (pv 8)) paNil)))) (paCons (pdOp r2Add op_add (pdC pe_int) (pdCall (fun _ _ _ q => (L_drawU _ _ _ q).1) G_draw (hr.mono (by decide)) (by rfl) m_draw k_draw b_draw pass0 (paCons (pdV (pv 1)) (paCons (pdV (pv 9)) paNil)))) paNil)) (by rfl)))
            (psCons (psExp (pdMeth (fun _ _ _ q => (L_Accounts_trade _ _ _ q).1) TC_Accounts.cl m_Accounts_trade G_Accounts_trade (hr.mono (by decide)) b_Accounts_trade pass0 (pdV (pv 5)) (paCons (pdV (pv 10)) (paCons (pdV (pv 11)) (paCons (pdV (pv 12)) (paCons (pdV (pv 13)) (paCons (pdV (pv 14)) paNil)))))))
            (psCons (psSApp (by rfl) (pe_bm PySem.F.plainAttrs_list PySem.F.slot_list_append PySem.F.type_list_append mt_append (pdV (pv 6)) (pa_cons (pdTup (paCons (pdV (pv 10)) (paCons (pdV (pv 12)) (paCons (pdV (pv 11)) (paCons (pdV (pv 13)) (paCons (pdV (pv 14)) paNil)))))) pa_nil)))
            (psOne (psIf (ptNot (ptVal (pdCall (fun _ _ _ q => (L_sums_right _ _ _ q).1) G_sums_right (hr.mono (by decide)) (by rfl) m_sums_right k_sums_right b_sums_right pass0 (paCons (pdV (pv 5)) (paCons (pdV (pv 3)) (paCons (pdV (pv 4)) paNil)))))) (psOne (psRet (pdC pe_bl))) psNil))))))))))
          (psCons (psWhile PassesOwn.never (ptNeEH hr.units (pdV (pv 6)) (pdLst paNil))
           (psCons (psAsg (pdPopH (pe_bm PySem.F.plainAttrs_list PySem.F.slot_list_pop PySem.F.type_list_pop mt_popAt (pdV (pv 6)) (pa_cons (pdCall (fun _ _ _ q => (L_drawU _ _ _ q).1) G_draw (hr.mono (by decide)) (by rfl) m_draw k_draw b_draw pass0 (paCons (pdV (pv 1)) (paCons (pdLenH (pe_callB call_lenA (by rfl) T.b_len (by decide +kernel) (pa_cons (pdV (pv 6)) pa_nil))) paNil))) pa_nil))) (pgTup (n := 5) rfl (pgCons (pgN (pg_name (i := 10) sc_law.nd rfl (Or.inl rfl))) (pgCons (pgN (pg_name (i := 11) sc_law.nd rfl (Or.inl rfl))) (pgCons (pgN (pg_name (i := 12) sc_law.nd rfl (Or.inl rfl))) (pgCons (pgN (pg_name (i := 13) sc_law.nd rfl (Or.inl rfl))) (pgCons (pgN (pg_name (i := 14) sc_law.nd rfl (Or.inl rfl))) pgNil)))))))
            (psCons (psExp (pdMeth (fun _ _ _ q => (L_Accounts_trade _ _ _ q).1) TC_Accounts.cl m_Accounts_trade G_Accounts_trade (hr.mono (by decide)) b_Accounts_trade pass0 (pdV (pv 5)) (paCons (pdV (pv 10)) (paCons (pdV (pv 11)) (paCons (pdV (pv 12)) (paCons (pdV (pv 13)) (paCons (pdV (pv 14)) paNil)))))))
            (psOne (psIf (ptNot (ptVal (pdCall (fun _ _ _ q => (L_sums_right _ _ _ q).1) G_sums_right (hr.mono (by decide)) (by rfl) m_sums_right k_sums_right b_sums_right pass0 (paCons (pdV (pv 5)) (paCons (pdV (pv 3)) (paCons (pdV (pv 4)) paNil)))))) (psOne (psRet (pdC pe_bl))) psNil)))))
          (psOne (psRet (pdAnd (pdCmp r2EqD (op_eqD hr.units) (pdMeth0 (fun _ _ _ q => (L_Accounts_rows _ _ _ q).1) TC_Accounts.cl m_Accounts_rows G_Accounts_rows (hr.mono (by decide)) b_Accounts_rows pass0 (pdV (pv 5))) (pdLst paNil) (nomark _)) (pe_one (pdCmp r2EqD (op_eqD hr.units) (pdMeth0 (fun _ _ _ q => (L_Accounts_rows _ _ _ q).1) TC_Accounts.cl m_Accounts_rows G_Accounts_rows (hr.mono (by decide)) b_Accounts_rows pass0 (pdMake0 ⟨TC_Accounts.makes, m_Accounts_init.at_, m_Accounts_init.fn, TC_Accounts.kp⟩ G_Accounts_init (hr.mono (by decide)) (by rfl) TC_Accounts.mgc b_Accounts_init pass0)) (pdLst paNil) (nomark _))))))))))))), ?_⟩
    refine ⟨_, rfl, a, ns, rfl, hS, hlen, hb, fun p l H2 np nl s2 u2 => ?_⟩
    refine ⟨{ H0 := H2, n0 := ((0 : Int), fun _ => none), B0 := fun _ => False, t := .ref p, u := .ref l, pins := [], Bs := fun b e => e.elim }, fun _ => none, ((0 : Int), fun _ => none), [.raw (.ref a), .tape, .un, .un, .un, .un, .un, .un, .un, .un, .un, .un, .un, .un, .un], { nx := fun _ _ => False, rt := fun r _ => r = .d (.bool true) }, ?env, ?data, ?link⟩
    case env =>
      refine ⟨.refl, ⟨⟨fun b e => by cases e; exact ⟨l, rfl, u2⟩, fun a o e => by cases e⟩, hT _⟩, fun i a e => (by cases e), fun i a e => (by cases e), fun i j a e => (by cases e), fun i x e => ?_, rfl, fun q hq => (by cases hq), ⟨0, fun _ _ => rfl⟩, fun i a x e => (by cases e)⟩
      match i, e with
      | 0, e => cases e; exact rfl
      | 1, e => cases e; exact ⟨rfl, p, rfl⟩
      | i + 2, e =>
        have e' : (List.replicate 13 DV.un)[i]? = some x := e
        rw [List.getElem?_replicate] at e'
        split at e'
        · cases e'; exact True.intro
        · cases e'
    case link =>
      refine ⟨fun A n σ H' ρ h => h.elim, fun v r n H' h f o => ?_, fun A n σ H' ρ h => h.elim, fun A n σ H' ρ h => h.elim⟩
      have h : r = .d (.bool true) := h
      subst h
      cases o
      exact k H'
    case data =>
      repeat walk_at "s"
      refine ⟨rfl, fun nms hnl hnu hok => ?_⟩
      repeat walk_at "s"
      obtain ⟨OW, eOW⟩ : ∃ OW, OW = nms.take 5 := ⟨_, rfl⟩
      obtain ⟨TH, eTH⟩ : ∃ TH, TH = (nms.drop 4).take 2 := ⟨_, rfl⟩
      have lm : (nms.map PyData.str).length = 8 := by rw [List.length_map, hnl]
      have eO : cutD (nms.map PyData.str) none (some 5) = OW.map PyData.str := by
        rw [eOW, List.map_take]
        exact cut_loW _ 5 (by omega)
      have eT : cutD (nms.map PyData.str) (some 4) (some 6) = TH.map PyData.str := by
        rw [eTH, List.map_take, List.map_drop]
        show ((nms.map PyData.str).drop (HT.sIx (nms.map PyData.str).length 0 (some (4 : Nat)))).take (HT.sIx (nms.map PyData.str).length (nms.map PyData.str).length (some (6 : Nat)) - HT.sIx (nms.map PyData.str).length 0 (some (4 : Nat))) = _
        rw [HT.sIx_nat, HT.sIx_nat, lm]
        rfl
      rw [eO, eT]
      have oO : OW.length = 5 := by rw [eOW, List.length_take, hnl]; rfl
      have oT : TH.length = 2 := by rw [eTH, List.length_take, List.length_drop, hnl]; rfl
      have nO : OW.Nodup := by rw [eOW]; exact (List.take_sublist _ _).nodup hnu
      have nT : TH.Nodup := by rw [eTH]; exact ((List.take_sublist _ _).trans (List.drop_sublist _ _)).nodup hnu
      have kO : ∀ o ∈ OW, PyData.strOk o = true := fun o ho => hok o (by rw [eOW] at ho; exact List.mem_of_mem_take ho)
      have kT : ∀ o ∈ TH, PyData.strOk o = true := fun o ho => hok o (by rw [eTH] at ho; exact List.mem_of_mem_drop (List.mem_of_mem_take ho))
      clear eO eT eOW eTH
      repeat walk_at "s"
      intro x hx
      refine ⟨x, OW, TH, rfl, sset_eq, ⟨by omega, by omega⟩, fun S1 F1 A1 _ => ⟨rfl, ?_⟩⟩
      repeat walk_at "s"
      intro q hq
      have hq : S1 q = none := hq
      obtain ⟨F2, A1, nq1⟩ : ∃ F2 : Addr → Prop, AccAt CA S1 x F2 OW TH (cashOf []) (holdOf []) ∧ ¬ F2 q := ⟨_, A1.shrink, fun z => z.2 hq⟩
      have A2 := A1.frame (S' := sset S1 q (.lst [])) fun b hb => sset_ne fun z => nq1 (by rw [← z]; exact hb)
      have hq2 : sset S1 q (.lst []) q = some (.lst (([] : List Trd).map Trd.dat)) := sset_eq
      generalize sset S1 q (.lst []) = S2 at A2 hq2
      repeat walk_at "s"
      refine ⟨cnd ⟨by decide, by decide⟩, fun r3 r3a r3b => ?_⟩
      repeat walk_at "s"
      refine ⟨by omega, by omega, ?_⟩
      have okT : ∀ y : Trd, (y.sell ∈ OW ∧ y.buy ∈ OW ∧ y.thing ∈ TH) ∧ (1 ≤ y.price ∧ y.price ≤ 10 ^ 6) ∧ (1 ≤ y.amount ∧ y.amount ≤ 10 ^ 9) → Cnd (y.price.natAbs < 2 ^ 400 ∧ y.amount.natAbs < 2 ^ 400) := fun y hy => cnd ⟨by
        have : (10 : Int) ^ 6 = 1000000 := by decide
        have : (1000000 : Nat) < 2 ^ 400 := by decide
        omega, by
        have : (10 : Int) ^ 9 = 1000000000 := by decide
        have : (1000000000 : Nat) < 2 ^ 400 := by decide
        omega⟩
      refine ⟨fun i ρ (m : Int × Sto) => ∃ (q : Addr) (Ft : Addr → Prop) (l : List Trd) (j7 j8 j9 j10 j11 j12 j13 j14 : DV), ρ = [.raw (.ref a), .tape, .d (.list (nms.map PyData.str)), .d (.list (OW.map PyData.str)), .d (.list (TH.map PyData.str)), .d (hnd x), .d (hnd q), j7, j8, j9, j10, j11, j12, j13, j14] ∧ AccAt CA m.2 x Ft OW TH (cashOf l) (holdOf l) ∧ m.2 q = some (.lst (l.map Trd.dat)) ∧ ¬ Ft q ∧ l.length ≤ i ∧ ∀ y ∈ l, (y.sell ∈ OW ∧ y.buy ∈ OW ∧ y.thing ∈ TH) ∧ (1 ≤ y.price ∧ y.price ≤ 10 ^ 6) ∧ (1 ≤ y.amount ∧ y.amount ≤ 10 ^ 9), ⟨q, F2, [], _, _, _, _, _, _, _, _, rfl, A2, hq2, nq1, Nat.le_refl _, fun y hy => (by cases hy)⟩, ?_, ?_⟩
      · clear A2 hq2 nq1 A1
        rintro i d ρ ⟨m1, S⟩ hd ⟨q, Ft, l, j7, j8, j9, j10, j11, j12, j13, j14, rfl, A0, hq, hnq, hln, hl⟩
        have A0 : AccAt CA S x Ft OW TH (cashOf l) (holdOf l) := A0
        have hq : S q = some (.lst (l.map Trd.dat)) := hq
        have hi : i < 41 := by
          have := (List.getElem?_eq_some_iff.mp hd).1
          rw [List.length_map, List.length_range] at this
          omega
        repeat walk_at "s"
        refine ⟨cnd ⟨by decide, by decide⟩, fun r4 r4a r4b => ?_⟩
        repeat walk_at "s"
        obtain ⟨g, eg, g1, g2⟩ : ∃ g : Int, opIxL (.list [.int 2, .int 1000000]) (.int r4) = some (.d (.int g)) ∧ 1 ≤ g ∧ g ≤ 10 ^ 6 := by
          have e : r4 = 0 ∨ r4 = 1 := by omega
          rcases e with e | e <;> subst e
          · exact ⟨_, rfl, by decide, by decide⟩
          · exact ⟨_, rfl, by decide, by decide⟩
        refine ⟨_, eg, ?_⟩
        repeat walk_at "s"
        refine ⟨cnd ⟨by decide, by decide⟩, fun r5 r5a r5b => ?_⟩
        repeat walk_at "s"
        obtain ⟨h, eh, h1, h2⟩ : ∃ g : Int, opIxL (.list [.int 4, .int 1000000000]) (.int r5) = some (.d (.int g)) ∧ 1 ≤ g ∧ g ≤ 10 ^ 9 := by
          have e : r5 = 0 ∨ r5 = 1 := by omega
          rcases e with e | e <;> subst e
          · exact ⟨_, rfl, by decide, by decide⟩
          · exact ⟨_, rfl, by decide, by decide⟩
        refine ⟨_, eh, ?_⟩
        repeat walk_at "s"
        refine ⟨cnd ⟨by decide, by decide⟩, fun r6 r6a r6b => ?_⟩
        repeat walk_at "s"
        obtain ⟨thing, hthing, ething⟩ : ∃ t ∈ TH, opIxL (.list (TH.map PyData.str)) (.int r6) = some (.d (.str t)) := by
          obtain ⟨d, hd, e⟩ := ixMem (xs := TH.map PyData.str) r6a (by rw [List.length_map]; omega)
          obtain ⟨t, ht, rfl⟩ := List.mem_map.mp hd
          exact ⟨t, ht, e⟩
        refine ⟨_, ething, ?_⟩
        have atO : ∀ {r : Int}, 0 ≤ r → r < 5 → ∃ t ∈ OW, opIxL (.list (OW.map PyData.str)) (.int r) = some (.d (.str t)) := fun {r} ra rb => by
          obtain ⟨d, hd, e⟩ := ixMem (xs := OW.map PyData.str) ra (by rw [List.length_map]; omega)
          obtain ⟨t, ht, rfl⟩ := List.mem_map.mp hd
          exact ⟨t, ht, e⟩
        repeat walk_at "s"
        refine ⟨cnd ⟨by decide, by decide⟩, fun r7 r7a r7b => ?_⟩
        obtain ⟨buyer, hbuyer, ebuyer⟩ := atO r7a r7b
        repeat walk_at "s"
        refine ⟨_, ebuyer, ?_⟩
        repeat walk_at "s"
        refine ⟨cnd ⟨by decide, by decide⟩, fun r8 r8a r8b => ?_⟩
        obtain ⟨seller, hseller, eseller⟩ := atO r8a r8b
        repeat walk_at "s"
        refine ⟨_, eseller, ?_⟩
        repeat walk_at "s"
        have big9 : (10 : Int) ^ 9 < 2 ^ 300 := by decide
        have big6 : (10 : Int) ^ 6 < 2 ^ 300 := by decide
        refine ⟨cnd ⟨g1, by omega⟩, fun r9 r9a r9b => ?_⟩
        repeat walk_at "s"
        refine ⟨cnd ⟨h1, by omega⟩, fun r10 r10a r10b => ?_⟩
        repeat walk_at "s"
        obtain ⟨c0, h0, cs0, os0, RA⟩ := id A0
        refine ⟨_, RA.ax, accF_no (by decide +kernel) (by decide +kernel) c0 h0, ?_⟩
        repeat walk_at "s"
        obtain ⟨y, ey⟩ : ∃ y : Trd, y = ⟨thing, seller, buyer, 1 + r9, 1 + r10⟩ := ⟨_, rfl⟩
        have hy : (y.sell ∈ OW ∧ y.buy ∈ OW ∧ y.thing ∈ TH) ∧ (1 ≤ y.price ∧ y.price ≤ 10 ^ 6) ∧ (1 ≤ y.amount ∧ y.amount ≤ 10 ^ 9) := by
          rw [ey]
          exact ⟨⟨hseller, hbuyer, hthing⟩, ⟨by show 1 ≤ 1 + r9; omega, by show 1 + r9 ≤ _; omega⟩, ⟨by show 1 ≤ 1 + r10; omega, by show 1 + r10 ≤ _; omega⟩⟩
        have hbig := okT y hy
        rw [ey] at hbig
        refine ⟨x, thing, buyer, seller, 1 + r9, 1 + r10, Ft, OW, TH, _, _, rfl, A0, ⟨hbuyer, hseller, hthing⟩, hbig, fun S3 F3 A3 M3 => ?_⟩
        have A3 : AccAt CA S3 x F3 OW TH (cashOf (l ++ [y])) (holdOf (l ++ [y])) := by
          rw [← (trade_on l y).1, ← (trade_on l y).2, ey]
          exact A3
        obtain ⟨hq3, hn3⟩ := M3 q (by show S q ≠ none; rw [hq]; exact fun z => by cases z) hnq
        have hq3 : S3 q = some (.lst (l.map Trd.dat)) := hq3.trans hq
        repeat walk_at "s"
        refine ⟨q, _, rfl, hq3, ?_⟩
        repeat walk_at "s"
        refine ⟨_, hq3, _, rfl, by rw [List.length_map]; omega, ?_⟩
        have A4 := A3.frame (S' := sset S3 q (.lst ((l ++ [y]).map Trd.dat))) fun b hb => sset_ne fun z => hn3 (by rw [← z]; exact hb)
        have hq4 : sset S3 q (.lst ((l ++ [y]).map Trd.dat)) q = some (.lst ((l ++ [y]).map Trd.dat)) := sset_eq
        rw [show l.map Trd.dat ++ [PyData.tuple [.str thing, .str seller, .str buyer, .int (1 + r9), .int (1 + r10)]] = (l ++ [y]).map Trd.dat by rw [List.map_append, ey]; rfl]
        generalize sset S3 q (.lst ((l ++ [y]).map Trd.dat)) = S4 at A4 hq4
        repeat walk_at "s"
        have hl2 : ∀ z ∈ l ++ [y], (z.sell ∈ OW ∧ z.buy ∈ OW ∧ z.thing ∈ TH) ∧ (1 ≤ z.price ∧ z.price ≤ 10 ^ 6) ∧ (1 ≤ z.amount ∧ z.amount ≤ 10 ^ 9) := fun z hz => by
          rcases List.mem_append.mp hz with h | h
          · exact hl z h
          · rw [List.mem_singleton.mp h]
            exact hy
        have hws : ∀ z ∈ l ++ [y], z.sell ∈ OW ∧ z.buy ∈ OW := fun z hz => ⟨(hl2 z hz).1.1, (hl2 z hz).1.2.1⟩
        refine ⟨x, F3, OW, TH, _, _, rfl, A4, ⟨nO, nT, cash_sum nO hws, fun t _ => hold_sum nO t hws⟩, ⟨kO, kT⟩, fun S5 gr => ?_⟩
        repeat walk_at "s"
        exact ⟨q, _, l ++ [y], _, _, _, _, _, _, _, _, rfl, A4.grown gr, (gr q (by show S4 q ≠ none; rw [hq4]; exact fun z => by cases z)).trans hq4, fun z => hn3 z.1, by rw [List.length_append]; show l.length + 1 ≤ i + 1; omega, hl2⟩
      · clear A2 hq2 nq1 A1
        rintro ρ ⟨m1, S⟩ ⟨q, Ft, l, j7, j8, j9, j10, j11, j12, j13, j14, rfl, A0, hq, hnq, hln, hl⟩
        have ln : l.length ≤ 41 := by
          rw [List.length_map, List.length_range] at hln
          omega
        refine ⟨fun k ρ (m : Int × Sto) => ∃ (Ft : Addr → Prop) (l : List Trd) (j7 j8 j9 j10 j11 j12 j13 j14 : DV), ρ = [.raw (.ref a), .tape, .d (.list (nms.map PyData.str)), .d (.list (OW.map PyData.str)), .d (.list (TH.map PyData.str)), .d (hnd x), .d (hnd q), j7, j8, j9, j10, j11, j12, j13, j14] ∧ AccAt CA m.2 x Ft OW TH (cashOf l) (holdOf l) ∧ m.2 q = some (.lst (l.map Trd.dat)) ∧ ¬ Ft q ∧ (l.length = k ∧ k ≤ 41) ∧ ∀ y ∈ l, (y.sell ∈ OW ∧ y.buy ∈ OW ∧ y.thing ∈ TH) ∧ (1 ≤ y.price ∧ y.price ≤ 10 ^ 6) ∧ (1 ≤ y.amount ∧ y.amount ≤ 10 ^ 9), ⟨l.length, Ft, l, _, _, _, _, _, _, _, _, rfl, A0, hq, hnq, ⟨rfl, ln⟩, hl⟩, ?_⟩
        clear A0 hq hnq hln hl ln
        rintro k2 ρ ⟨m1, S⟩ ⟨Ft, l, j7, j8, j9, j10, j11, j12, j13, j14, rfl, A0, hq, hnq, ⟨rfl, ln⟩, hl⟩
        have A0 : AccAt CA S x Ft OW TH (cashOf l) (holdOf l) := A0
        have hq : S q = some (.lst (l.map Trd.dat)) := hq
        repeat walk_at "s"
        refine ⟨_, hq, rfl, ?_⟩
        refine ite2 (fun e => ?_) (fun e => ?_)
        · have ne : l.length ≠ 0 := fun z => by
            rw [List.length_eq_zero_iff.mp z] at e
            cases e
          refine ⟨fun ρ (m : Int × Sto) => ∃ (Ft : Addr → Prop) (l2 : List Trd) (j7 j8 j9 j10 j11 j12 j13 j14 : DV), ρ = [.raw (.ref a), .tape, .d (.list (nms.map PyData.str)), .d (.list (OW.map PyData.str)), .d (.list (TH.map PyData.str)), .d (hnd x), .d (hnd q), j7, j8, j9, j10, j11, j12, j13, j14] ∧ AccAt CA m.2 x Ft OW TH (cashOf l2) (holdOf l2) ∧ m.2 q = some (.lst (l2.map Trd.dat)) ∧ ¬ Ft q ∧ (l2.length = l.length - 1 ∧ l.length - 1 ≤ 41) ∧ ∀ y ∈ l2, (y.sell ∈ OW ∧ y.buy ∈ OW ∧ y.thing ∈ TH) ∧ (1 ≤ y.price ∧ y.price ≤ 10 ^ 6) ∧ (1 ≤ y.amount ∧ y.amount ≤ 10 ^ 9), fun ρ n hN => ⟨l.length - 1, by omega, hN⟩, ?_⟩
          repeat walk_at "s"
          refine ⟨q, _, rfl, hq, ?_⟩
          repeat walk_at "s"
          refine ⟨_, hq, _, rfl, ?_⟩
          repeat walk_at "s"
          have b41 : (41 : Int) < 2 ^ 300 := by decide
          have b63 : (41 : Int) < 2 ^ 63 := by decide
          refine ⟨cnd ⟨by rw [List.length_map]; omega, by rw [List.length_map]; omega⟩, fun r5 r5a r5b => ?_⟩
          obtain ⟨k5, rfl⟩ := Int.eq_ofNat_of_zero_le r5a
          rw [List.length_map] at r5b
          have hk5 : k5 < l.length := by omega
          obtain ⟨y, hyk⟩ : ∃ y, l[k5]? = some y := ⟨_, List.getElem?_eq_getElem hk5⟩
          have hy := hl y (List.mem_of_getElem? hyk)
          refine ⟨_, k5, _, _, rfl, hq, by omega, by omega, (ixN_seq (ixN_nat (by rw [List.length_map]; exact hk5))).1, (by rw [List.getElem?_map, hyk]; rfl), ?_⟩
          rw [erase_map]
          obtain ⟨F1, A1, hn1⟩ : ∃ F1 : Addr → Prop, AccAt CA (sset S q (.lst ((l.eraseIdx k5).map Trd.dat))) x F1 OW TH (cashOf l) (holdOf l) ∧ ¬ F1 q := ⟨_, A0.frame fun b hb => sset_ne fun z => hnq (by rw [← z]; exact hb), hnq⟩
          have hq1 : sset S q (.lst ((l.eraseIdx k5).map Trd.dat)) q = some (.lst ((l.eraseIdx k5).map Trd.dat)) := sset_eq
          generalize sset S q (.lst ((l.eraseIdx k5).map Trd.dat)) = S1 at A1 hq1
          have hl2 : ∀ z ∈ l.eraseIdx k5, (z.sell ∈ OW ∧ z.buy ∈ OW ∧ z.thing ∈ TH) ∧ (1 ≤ z.price ∧ z.price ≤ 10 ^ 6) ∧ (1 ≤ z.amount ∧ z.amount ≤ 10 ^ 9) := fun z hz => hl z ((List.eraseIdx_sublist _ _).subset hz)
          have hws : ∀ z ∈ l.eraseIdx k5, z.sell ∈ OW ∧ z.buy ∈ OW := fun z hz => ⟨(hl2 z hz).1.1, (hl2 z hz).1.2.1⟩
          have hbig := okT y hy
          have off := trade_off hyk
          obtain ⟨th, se, bu, pr, am⟩ := y
          obtain ⟨⟨hse, hbu, hth⟩, _, _⟩ := hy
          repeat walk_at "s"
          obtain ⟨c0, h0, cs0, os0, RA⟩ := id A1
          refine ⟨_, RA.ax, accF_no (by decide +kernel) (by decide +kernel) c0 h0, ?_⟩
          repeat walk_at "s"
          refine ⟨x, th, se, bu, pr, am, F1, OW, TH, _, _, rfl, A1, ⟨hse, hbu, hth⟩, hbig, fun S3 F3 A3 M3 => ?_⟩
          have A3 : AccAt CA S3 x F3 OW TH (cashOf (l.eraseIdx k5)) (holdOf (l.eraseIdx k5)) := by
            rw [← off.1, ← off.2]
            exact A3
          obtain ⟨hq3, hn3⟩ := M3 q (by show S1 q ≠ none; rw [hq1]; exact fun z => by cases z) hn1
          have hq3 : S3 q = some (.lst ((l.eraseIdx k5).map Trd.dat)) := hq3.trans hq1
          repeat walk_at "s"
          refine ⟨x, F3, OW, TH, _, _, rfl, A3, ⟨nO, nT, cash_sum nO hws, fun t _ => hold_sum nO t hws⟩, ⟨kO, kT⟩, fun S5 gr => ?_⟩
          repeat walk_at "s"
          exact ⟨_, l.eraseIdx k5, _, _, _, _, _, _, _, _, rfl, A3.grown gr, (gr q (by show S3 q ≠ none; rw [hq3]; exact fun z => by cases z)).trans hq3, fun z => hn3 z.1, ⟨List.length_eraseIdx_of_lt hk5, by omega⟩, hl2⟩
        · have e0 : l = [] := by
            cases l with
            | nil => rfl
            | cons _ _ => exact absurd rfl e
          subst e0
          repeat walk_at "s"
          obtain ⟨c0, h0, cs0, os0, RA⟩ := id A0
          refine ⟨_, RA.ax, accF_no (by decide +kernel) (by decide +kernel) c0 h0, ?_⟩
          repeat walk_at "s"
          refine ⟨x, Ft, OW, TH, _, _, rfl, A0, fun S2 l2 gr rl => ?_⟩
          obtain rfl := rows_nil rl (fun _ => rfl) (fun _ _ => rfl)
          repeat walk_at "s"
          intro x2 hx2
          refine ⟨x2, [], [], rfl, sset_eq, ⟨by decide, by decide⟩, fun S3 F3 A3 _ => ⟨rfl, ?_⟩⟩
          repeat walk_at "s"
          obtain ⟨c1, h1, cs1, os1, RB⟩ := id A3
          refine ⟨_, RB.ax, accF_no (by decide +kernel) (by decide +kernel) c1 h1, ?_⟩
          repeat walk_at "s"
          refine ⟨x2, F3, [], [], _, _, rfl, A3, fun S4 l4 gr4 rl4 => ?_⟩
          obtain rfl := rows_nil rl4 (fun _ => rfl) (fun _ _ => rfl)
          repeat walk_at "s"
          exact rfl
end

end
/-! ### what the top has written, the end -/
instance tab0 : Tabz := ⟨[]⟩
theorem all_mk {l : PySem.W.OpenLaw} {w : World} {K : PySem.W.Frag} {h : Heap} {mg : Str → Option Value} {fa f1 f2 f3 f4 f5 f6 f7 f8 f9 f10 f11 f12 f13 CA : Addr} (X : K.In h) (G : h.Ns mainGlobals mg) (hfa : mg "law" = some (.ref fa))
    {od1 an1 od2 an2 od3 an3 od4 an4 od5 an5 od6 an6 od7 an7 od8 an8 od9 an9 od10 an10 od11 an11 od12 an12 od13 an13 : Option Addr} {sl1 sl2 sl3 sl4 sl5 sl6 sl7 sl8 sl9 sl10 sl11 sl12 sl13 : Array (Option Value)} {oc1 kV1 dc1 pm1 cd1 ct1 oc2 kV2 dc2 pm2 cd2 ct2 oc3 kV3 dc3 pm3 cd3 ct3 oc4 kV4 dc4 pm4 cd4 ct4 oc5 kV5 dc5 pm5 cd5 ct5 oc6 kV6 dc6 pm6 cd6 ct6 oc7 kV7 dc7 pm7 cd7 ct7 oc8 kV8 dc8 pm8 cd8 ct8 oc9 kV9 dc9 pm9 cd9 ct9 oc10 kV10 dc10 pm10 cd10 ct10 oc11 kV11 dc11 pm11 cd11 ct11 oc12 kV12 dc12 pm12 cd12 ct12 oc13 kV13 dc13 pm13 cd13 ct13 : Value}
    (aCCA : PySem.W.nsIn K mainGlobals "Accounts" = some (some (.ref CA)))
    (pgCA : PySem.W.plainGet K CA Str.empty = true)
    (hdCA : PySem.W.hasDictIn K CA = true)
    (poCA : PySem.W.plainOver K CA = true)
    (saCA : PySem.W.findIn K (.ref CA) "__setattr__" = some (some (.builtin "object.__setattr__")))
    (mkCA : PySem.W.makesIn K CA = true)
    (kcCA : PySem.W.keepIn K (.ref CA) = true)
    (n0CA : PySem.W.findIn K (.ref CA) "_cash" = some none)
    (n1CA : PySem.W.findIn K (.ref CA) "_holdings" = some none)
    (a1 : PySem.W.nsIn K mainGlobals "_law_well" = some (some (.ref f1))) (l1 : K.lookup f1 = some ⟨oc1, od1, .func (PySem.W.fnOf "_law_well" "_law_well" (defArgs s_law_well) (defBody s_law_well) (defScope s_law_well) .none kV1 dc1 pm1 an1 cd1 ct1), sl1⟩) (c1 : PySem.W.codeIn K cd1 "_law_well" = true) (k1 : PySem.W.keepIn K (.ref f1) = true)
    (a2 : PySem.W.nsIn K mainGlobals "_law_draw" = some (some (.ref f2))) (l2 : K.lookup f2 = some ⟨oc2, od2, .func (PySem.W.fnOf "_law_draw" "_law_draw" (defArgs s_law_draw) (defBody s_law_draw) (defScope s_law_draw) .none kV2 dc2 pm2 an2 cd2 ct2), sl2⟩) (c2 : PySem.W.codeIn K cd2 "_law_draw" = true) (k2 : PySem.W.keepIn K (.ref f2) = true)
    (a3 : PySem.W.nsIn K mainGlobals "_law_names" = some (some (.ref f3))) (l3 : K.lookup f3 = some ⟨oc3, od3, .func (PySem.W.fnOf "_law_names" "_law_names" (defArgs s_law_names) (defBody s_law_names) (defScope s_law_names) .none kV3 dc3 pm3 an3 cd3 ct3), sl3⟩) (c3 : PySem.W.codeIn K cd3 "_law_names" = true) (k3 : PySem.W.keepIn K (.ref f3) = true)
    (a4 : PySem.W.findIn K (.ref CA) "cash" = some (some (.ref f4))) (i4 : PySem.W.isFn K (.ref f4) = true) (l4 : K.lookup f4 = some ⟨oc4, od4, .func (PySem.W.fnOf "cash" "Accounts.cash" (defArgs s_Accounts_cash) (defBody s_Accounts_cash) (defScope s_Accounts_cash) .none kV4 dc4 pm4 an4 cd4 ct4), sl4⟩) (c4 : PySem.W.codeIn K cd4 "Accounts.cash" = true) (k4 : PySem.W.keepIn K (.ref f4) = true)
    (a5 : PySem.W.findIn K (.ref CA) "holding" = some (some (.ref f5))) (i5 : PySem.W.isFn K (.ref f5) = true) (l5 : K.lookup f5 = some ⟨oc5, od5, .func (PySem.W.fnOf "holding" "Accounts.holding" (defArgs s_Accounts_holding) (defBody s_Accounts_holding) (defScope s_Accounts_holding) .none kV5 dc5 pm5 an5 cd5 ct5), sl5⟩) (c5 : PySem.W.codeIn K cd5 "Accounts.holding" = true) (k5 : PySem.W.keepIn K (.ref f5) = true)
    (a6 : PySem.W.findIn K (.ref CA) "credit" = some (some (.ref f6))) (i6 : PySem.W.isFn K (.ref f6) = true) (l6 : K.lookup f6 = some ⟨oc6, od6, .func (PySem.W.fnOf "credit" "Accounts.credit" (defArgs s_Accounts_credit) (defBody s_Accounts_credit) (defScope s_Accounts_credit) .none kV6 dc6 pm6 an6 cd6 ct6), sl6⟩) (c6 : PySem.W.codeIn K cd6 "Accounts.credit" = true) (k6 : PySem.W.keepIn K (.ref f6) = true)
    (a7 : PySem.W.findIn K (.ref CA) "supply" = some (some (.ref f7))) (i7 : PySem.W.isFn K (.ref f7) = true) (l7 : K.lookup f7 = some ⟨oc7, od7, .func (PySem.W.fnOf "supply" "Accounts.supply" (defArgs s_Accounts_supply) (defBody s_Accounts_supply) (defScope s_Accounts_supply) .none kV7 dc7 pm7 an7 cd7 ct7), sl7⟩) (c7 : PySem.W.codeIn K cd7 "Accounts.supply" = true) (k7 : PySem.W.keepIn K (.ref f7) = true)
    (a8 : PySem.W.findIn K (.ref CA) "trade" = some (some (.ref f8))) (i8 : PySem.W.isFn K (.ref f8) = true) (l8 : K.lookup f8 = some ⟨oc8, od8, .func (PySem.W.fnOf "trade" "Accounts.trade" (defArgs s_Accounts_trade) (defBody s_Accounts_trade) (defScope s_Accounts_trade) .none kV8 dc8 pm8 an8 cd8 ct8), sl8⟩) (c8 : PySem.W.codeIn K cd8 "Accounts.trade" = true) (k8 : PySem.W.keepIn K (.ref f8) = true)
    (a9 : PySem.W.findIn K (.ref CA) "__init__" = some (some (.ref f9))) (i9 : PySem.W.isFn K (.ref f9) = true) (l9 : K.lookup f9 = some ⟨oc9, od9, .func (PySem.W.fnOf "__init__" "Accounts.__init__" (defArgs s_Accounts_init) (defBody s_Accounts_init) (defScope s_Accounts_init) .none kV9 dc9 pm9 an9 cd9 ct9), sl9⟩) (c9 : PySem.W.codeIn K cd9 "Accounts.__init__" = true) (k9 : PySem.W.keepIn K (.ref f9) = true)
    (a10 : PySem.W.findIn K (.ref CA) "_holdings_of" = some (some (.ref f10))) (i10 : PySem.W.isFn K (.ref f10) = true) (l10 : K.lookup f10 = some ⟨oc10, od10, .func (PySem.W.fnOf "_holdings_of" "Accounts._holdings_of" (defArgs s_Accountsholdings_of) (defBody s_Accountsholdings_of) (defScope s_Accountsholdings_of) .none kV10 dc10 pm10 an10 cd10 ct10), sl10⟩) (c10 : PySem.W.codeIn K cd10 "Accounts._holdings_of" = true) (k10 : PySem.W.keepIn K (.ref f10) = true)
    (a11 : PySem.W.findIn K (.ref CA) "rows" = some (some (.ref f11))) (i11 : PySem.W.isFn K (.ref f11) = true) (l11 : K.lookup f11 = some ⟨oc11, od11, .func (PySem.W.fnOf "rows" "Accounts.rows" (defArgs s_Accounts_rows) (defBody s_Accounts_rows) (defScope s_Accounts_rows) .none kV11 dc11 pm11 an11 cd11 ct11), sl11⟩) (c11 : PySem.W.codeIn K cd11 "Accounts.rows" = true) (k11 : PySem.W.keepIn K (.ref f11) = true)
    (a12 : PySem.W.nsIn K mainGlobals "_law_sums_right" = some (some (.ref f12))) (l12 : K.lookup f12 = some ⟨oc12, od12, .func (PySem.W.fnOf "_law_sums_right" "_law_sums_right" (defArgs s_law_sums_right) (defBody s_law_sums_right) (defScope s_law_sums_right) .none kV12 dc12 pm12 an12 cd12 ct12), sl12⟩) (c12 : PySem.W.codeIn K cd12 "_law_sums_right" = true) (k12 : PySem.W.keepIn K (.ref f12) = true)
    (a13 : PySem.W.nsIn K mainGlobals "law" = some (some (.ref f13))) (l13 : K.lookup f13 = some ⟨oc13, od13, .func (PySem.W.fnOf "law" "law" (defArgs s_law) (defBody s_law) (defScope s_law) .none kV13 dc13 pm13 an13 cd13 ct13), sl13⟩) (c13 : PySem.W.codeIn K cd13 "law" = true) (k13 : PySem.W.keepIn K (.ref f13) = true)
    (z0 : PySem.W.nsIn K mainGlobals "len" = some none)
    (z1 : PySem.W.nsIn K mainGlobals "max" = some none)
    (z2 : PySem.W.nsIn K mainGlobals "min" = some none)
    (z3 : PySem.W.nsIn K mainGlobals "range" = some none)
    (z4 : PySem.W.nsIn K mainGlobals "isinstance" = some none)
    (z5 : PySem.W.nsIn K mainGlobals "abs" = some none)
    (z6 : PySem.W.nsIn K mainGlobals "bool" = some none)
    (z7 : PySem.W.nsIn K mainGlobals "sum" = some none)
    (z8 : PySem.W.nsIn K mainGlobals "set" = some none)
    (z9 : PySem.W.nsIn K mainGlobals "sorted" = some none)
    : ∃ fd : FuncData, (∀ (s : Shared) (v : Value), BindsTo s fd ⟨[v], []⟩ [("script", v)]) ∧ ∀ base : Heap, K.In base → base.Ns mainGlobals mg → FnOk l.prog w K mg base CX0 6 fa fd ["script"] (spLaw K) := by
  have e := hfa.symm.trans (PySem.W.mg_of X G a13)
  cases e
  have T : Txt mg := ⟨PySem.W.mg_none_of X G z0, PySem.W.mg_none_of X G z1, PySem.W.mg_none_of X G z2, PySem.W.mg_none_of X G z3, PySem.W.mg_none_of X G z4, PySem.W.mg_none_of X G z5, PySem.W.mg_none_of X G z6, PySem.W.mg_none_of X G z7, PySem.W.mg_none_of X G z8, PySem.W.mg_none_of X G z9⟩
  have TC_Accounts : ClsI K mg "Accounts" CA accN := { cl := ⟨pgCA, hdCA, poCA, saCA⟩, no := (by intro x hx; simp only [List.mem_cons, List.not_mem_nil, or_false] at hx; rcases hx with rfl | rfl <;> assumption), makes := mkCA, kp := kcCA, mgc := PySem.W.mg_of X G aCCA }
  have F1 := fun_mk (st := s_law_well) l1 c1 k1
  have b1 := F1.binds (ps := ["script"]) fun _ _ _ _ _ _ us hl => match us, hl with | [_], _ => rfl
  have F2 := fun_mk (st := s_law_draw) l2 c2 k2
  have b2 := F2.binds (ps := ["well", "many"]) fun _ _ _ _ _ _ us hl => match us, hl with | [_, _], _ => rfl
  have F3 := fun_mk (st := s_law_names) l3 c3 k3
  have b3 := F3.binds (ps := ["well"]) fun _ _ _ _ _ _ us hl => match us, hl with | [_], _ => rfl
  have F4 := fun_mk (st := s_Accounts_cash) l4 c4 k4
  have b4 := F4.binds (ps := ["self", "owner"]) fun _ _ _ _ _ _ us hl => match us, hl with | [_, _], _ => rfl
  have F5 := fun_mk (st := s_Accounts_holding) l5 c5 k5
  have b5 := F5.binds (ps := ["self", "owner", "thing"]) fun _ _ _ _ _ _ us hl => match us, hl with | [_, _, _], _ => rfl
  have F6 := fun_mk (st := s_Accounts_credit) l6 c6 k6
  have b6 := F6.binds (ps := ["self", "owner", "cash"]) fun _ _ _ _ _ _ us hl => match us, hl with | [_, _, _], _ => rfl
  have F7 := fun_mk (st := s_Accounts_supply) l7 c7 k7
  have b7 := F7.binds (ps := ["self", "owner", "thing", "amount"]) fun _ _ _ _ _ _ us hl => match us, hl with | [_, _, _, _], _ => rfl
  have F8 := fun_mk (st := s_Accounts_trade) l8 c8 k8
  have b8 := F8.binds (ps := ["self", "thing", "buyer", "seller", "price", "amount"]) fun _ _ _ _ _ _ us hl => match us, hl with | [_, _, _, _, _, _], _ => rfl
  have F9 := fun_mk (st := s_Accounts_init) l9 c9 k9
  have b9 := F9.binds (ps := ["self"]) fun _ _ _ _ _ _ us hl => match us, hl with | [_], _ => rfl
  have F10 := fun_mk (st := s_Accountsholdings_of) l10 c10 k10
  have b10 := F10.binds (ps := ["self", "owner"]) fun _ _ _ _ _ _ us hl => match us, hl with | [_, _], _ => rfl
  have F11 := fun_mk (st := s_Accounts_rows) l11 c11 k11
  have b11 := F11.binds (ps := ["self"]) fun _ _ _ _ _ _ us hl => match us, hl with | [_], _ => rfl
  have F12 := fun_mk (st := s_law_sums_right) l12 c12 k12
  have b12 := F12.binds (ps := ["accounts", "owners", "things"]) fun _ _ _ _ _ _ us hl => match us, hl with | [_, _, _], _ => rfl
  have F13 := fun_mk (st := s_law) l13 c13 k13
  refine ⟨PySem.W.fnOf "law" "law" (defArgs s_law) (defBody s_law) (defScope s_law) .none kV13 dc13 pm13 an13 cd13 ct13, fun s v => .of_eq rfl, fun base _ _ => ?_⟩
  have C1 : Cal l.prog w K mg base 1 "_law_well" ["script"] (spWell K) := ⟨f1, _, ok_well F1 T, PySem.W.mg_of X G a1, k1, b1⟩
  have C2 : Cal l.prog w K mg base 1 "_law_draw" ["well", "many"] (spD mDraw) := ⟨f2, _, ok_drawD F2 T, PySem.W.mg_of X G a2, k2, b2⟩
  have C3 : Cal l.prog w K mg base 2 "_law_names" ["well"] (spD mNamesW) := ⟨f3, _, ok_namesW F3 T C2, PySem.W.mg_of X G a3, k3, b3⟩
  have C4 : MCal l.prog w K mg base CA 1 "cash" ["self", "owner"] (@spD famS _ (mCash CA)) := ⟨f4, _, ok_cash F4 T TC_Accounts, ⟨a4, i4, k4⟩, True.intro, b4⟩
  have C5 : MCal l.prog w K mg base CA 1 "holding" ["self", "owner", "thing"] (@spD famS _ (mHolding CA)) := ⟨f5, _, ok_holding F5 T TC_Accounts, ⟨a5, i5, k5⟩, True.intro, b5⟩
  have C6 : MCal l.prog w K mg base CA 2 "credit" ["self", "owner", "cash"] (@spD famS _ (mCredit CA)) := ⟨f6, _, ok_credit F6 T TC_Accounts C4, ⟨a6, i6, k6⟩, True.intro, b6⟩
  have C7 : MCal l.prog w K mg base CA 1 "supply" ["self", "owner", "thing", "amount"] (@spD famS _ (mSupply CA)) := ⟨f7, _, ok_supply F7 T TC_Accounts, ⟨a7, i7, k7⟩, True.intro, b7⟩
  have C8 : MCal l.prog w K mg base CA 3 "trade" ["self", "thing", "buyer", "seller", "price", "amount"] (@spD famS _ (mTrade CA)) := ⟨f8, _, ok_trade F8 T TC_Accounts C6 C7, ⟨a8, i8, k8⟩, True.intro, b8⟩
  have C9 : MCal l.prog w K mg base CA 1 "__init__" ["self"] (@spD famS _ (mInit CA)) := ⟨f9, _, ok_ainit F9 T TC_Accounts, ⟨a9, i9, k9⟩, True.intro, b9⟩
  have C10 : MCal l.prog w K mg base CA 1 "_holdings_of" ["self", "owner"] (@spD famS _ (mHoldOf CA)) := ⟨f10, _, ok_hof F10 T TC_Accounts, ⟨a10, i10, k10⟩, True.intro, b10⟩
  have C11 : MCal l.prog w K mg base CA 2 "rows" ["self"] (@spD famS _ (mRows CA)) := ⟨f11, _, ok_arows F11 T TC_Accounts C4 C10, ⟨a11, i11, k11⟩, True.intro, b11⟩
  have C12 : Cal l.prog w K mg base 3 "_law_sums_right" ["accounts", "owners", "things"] (@spD famS _ (mSums CA)) := ⟨f12, _, ok_sums F12 T TC_Accounts C4 C5 C11, PySem.W.mg_of X G a12, k12, b12⟩
  exact ok_law F13 T TC_Accounts (fun H q hq => by cases hq) C1 (up_D C2) (up_D C3) C12 C8 C11 C9
theorem walk {l : PySem.W.OpenLaw} {q : Program} {loose : List Str} {XP : (Str → Option Value) → Heap → Prop} {YP : World → Heap → Prop} {d : DefRec} {K : Params → PySem.W.Frag} (hn : l.most = some 63) (hdf : d.params.defaults = [])
    (hY : ∀ (w : World) (h : Heap), YP w h → (K w.params).In h)
    (F : ∀ (w : World) (mg : Str → Option Value) (fa : Addr) (h : Heap), (K w.params).In h → h.Ns mainGlobals mg → mg d.name = some (.ref fa) →
      ∃ fd : FuncData, (∀ (s : Shared) (u : Value), BindsTo s fd ⟨[u], []⟩ [("script", u)]) ∧ ∀ base : Heap, (K w.params).In base → base.Ns mainGlobals mg → FnOk l.prog w (K w.params) mg base CX0 6 fa fd ["script"] (spLaw (K w.params))) :
    PySem.W.WalkO q loose XP YP l.row.toRowW d [] (fun f vs => PySem.call f vs) :=
  L2.walk_ofB (n := 63) (k := 6) (x := "script") (CX := fun _ => CX0) (sp := fun w => spLaw (K w.params)) hn (by decide) hdf ⟨rfl, by decide, by decide⟩ hY F (fun _ _ a ns hl hb _ hS => ⟨a, ns, rfl, hS, hl, hb, fun _ => rfl⟩) fun _ _ _ _ _ z => z
end Rh
open PySem PySem.W PyProof.Rows
set_option maxRecDepth 100000 in
set_option maxHeartbeats 0 in
theorem PySem.Challenge.cw_ringhall_k39_whole_nothing_lost_holds : PySem.Challenge.rw_ringhall_k39_whole_nothing_lost.Holds := by
  w_on; o_law; k_head; (case hw => w_witness2)
  k_fill
  refine Rh.walk (l := PySem.Challenge.rw_ringhall_k39_whole_nothing_lost) rfl rfl (fun w h Y => PySem.W.kIn_of Y) ?F
  case F =>
    intro w mg fa h KX G hmg
    refine' Rh.all_mk KX G hmg ?aCCA ?pgCA ?hdCA ?poCA ?saCA ?mkCA ?kcCA ?n0CA ?n1CA ?a1 ?l1 ?c1 ?k1 ?a2 ?l2 ?c2 ?k2 ?a3 ?l3 ?c3 ?k3 ?a4 ?i4 ?l4 ?c4 ?k4 ?a5 ?i5 ?l5 ?c5 ?k5 ?a6 ?i6 ?l6 ?c6 ?k6 ?a7 ?i7 ?l7 ?c7 ?k7 ?a8 ?i8 ?l8 ?c8 ?k8 ?a9 ?i9 ?l9 ?c9 ?k9 ?a10 ?i10 ?l10 ?c10 ?k10 ?a11 ?i11 ?l11 ?c11 ?k11 ?a12 ?l12 ?c12 ?k12 ?a13 ?l13 ?c13 ?k13 ?z0 ?z1 ?z2 ?z3 ?z4 ?z5 ?z6 ?z7 ?z8 ?z9
    (case aCCA => k_is)
    (case pgCA => k_is)
    (case hdCA => k_is)
    (case poCA => k_is)
    (case saCA => k_is)
    (case mkCA => k_is)
    (case kcCA => k_is)
    (case n0CA => k_is)
    (case n1CA => k_is)
    (case a1 => k_is)
    (case l1 => k_is)
    (case c1 => k_is)
    (case k1 => k_is)
    (case a2 => k_is)
    (case l2 => k_is)
    (case c2 => k_is)
    (case k2 => k_is)
    (case a3 => k_is)
    (case l3 => k_is)
    (case c3 => k_is)
    (case k3 => k_is)
    (case a4 => k_is)
    (case i4 => k_is)
    (case l4 => k_is)
    (case c4 => k_is)
    (case k4 => k_is)
    (case a5 => k_is)
    (case i5 => k_is)
    (case l5 => k_is)
    (case c5 => k_is)
    (case k5 => k_is)
    (case a6 => k_is)
    (case i6 => k_is)
    (case l6 => k_is)
    (case c6 => k_is)
    (case k6 => k_is)
    (case a7 => k_is)
    (case i7 => k_is)
    (case l7 => k_is)
    (case c7 => k_is)
    (case k7 => k_is)
    (case a8 => k_is)
    (case i8 => k_is)
    (case l8 => k_is)
    (case c8 => k_is)
    (case k8 => k_is)
    (case a9 => k_is)
    (case i9 => k_is)
    (case l9 => k_is)
    (case c9 => k_is)
    (case k9 => k_is)
    (case a10 => k_is)
    (case i10 => k_is)
    (case l10 => k_is)
    (case c10 => k_is)
    (case k10 => k_is)
    (case a11 => k_is)
    (case i11 => k_is)
    (case l11 => k_is)
    (case c11 => k_is)
    (case k11 => k_is)
    (case a12 => k_is)
    (case l12 => k_is)
    (case c12 => k_is)
    (case k12 => k_is)
    (case a13 => k_is)
    (case l13 => k_is)
    (case c13 => k_is)
    (case k13 => k_is)
    (case z0 => k_is)
    (case z1 => k_is)
    (case z2 => k_is)
    (case z3 => k_is)
    (case z4 => k_is)
    (case z5 => k_is)
    (case z6 => k_is)
    (case z7 => k_is)
    (case z8 => k_is)
    (case z9 => k_is)


