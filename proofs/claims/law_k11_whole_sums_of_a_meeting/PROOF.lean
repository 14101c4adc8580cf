import PyProof.Rows.All
import Wide.All
import OpenK.AllK
import Wide.FinOn
import HandS.ForMost
import HandS.IsInst
import HandS.Wide
import HandS.Codes
import HandS.Walk
import HandS.Deep
import HandS.Lambda
import HandS.SortKw
import KE.SortKeyHeap
import KE.SortLaws
import KE.KLam
import HandS.EndBits
import HandS.EndTab
import HandS.Zip
import HandS.Rev
import HandS.Defaults
import HandS.Flow
import HandS.Strs
import HandS.SetBool
import HandS.SetFor
import HandS.SetKeys
import HandS.Style
import HandS.TupAny
import HandS.RaiseMore
import HandS.Text
import HandS.Dict
import HandS.SortInts
import KE.KSortKey
import KE.KDictZip
import KE.GoesEnum
import KE.GoesMore
import KE.GoesZip
import HandS.MakeKwOnly
import HandS.Iter
import HandS.WordsDict
import PySem.Challenge.RW_ringhall_k11_whole_sums_of_a_meeting
set_option Elab.async false
set_option linter.all false
set_option maxHeartbeats 4000000
set_option maxRecDepth 100000
set_option exponentiation.threshold 2000
namespace Rh
open PySem L2
def topS (i : Nat) : Stmt := PySem.Challenge.pw_ringhall_k11_whole_sums_of_a_meeting.main.body.getD i (.Pass ⟨0, 0, 0, 0⟩)
/-! ### the purse -/
def Pu (H : Hp) (p : Addr) (n : Int) : Prop := ∃ own seed cnt : Int, H p = some (.lst [.int own, .int seed, .int cnt]) ∧ 0 ≤ own ∧ 0 ≤ seed ∧ seed < 2 ^ 63 ∧ 0 ≤ cnt ∧ cnt ≤ n
def Keep (p : Addr) (H H' : Hp) : Prop := ∀ b o, b ≠ p → H b = some o → H' b = some o
theorem Keep.refl (p : Addr) (H : Hp) : Keep p H H := fun _ _ _ h => h
theorem Keep.trans {p : Addr} {H H1 H2 : Hp} (a : Keep p H H1) (b : Keep p H1 H2) : Keep p H H2 := fun c o n h => b c o n (a c o n h)
theorem Keep.same {p : Addr} {H H' : Hp} (s : Same H H') : Keep p H H' := fun c o _ h => s c o h
theorem Same.keep {p : Addr} {H0 H H' : Hp} (s : Same H0 H) (k : Keep p H H') (n : H0 p = none) : Same H0 H' := fun b o h => k b o (ne_of_none h n) (s b o h)
theorem Same.new {H : Hp} {p : Addr} {o : HO} (h : H p = none) : Same H (upd H p o) := fun a u e => by
  rw [upd_ne (ne_of_none e h)]
  exact e
theorem Pu.same {H H' : Hp} {p : Addr} {n : Int} (u : Pu H p n) (s : Same H H') : Pu H' p n := by
  obtain ⟨a, b, c, h, r⟩ := u
  exact ⟨a, b, c, s _ _ h, r⟩
theorem Pu.mono {H : Hp} {p : Addr} {n m : Int} (u : Pu H p n) (h : n ≤ m) : Pu H p m := by
  obtain ⟨a, b, c, h1, h2, h3, h4, h5, h6⟩ := u
  exact ⟨a, b, c, h1, h2, h3, h4, h5, by omega⟩

def spPurse (K : PySem.W.Frag) : Sp := fun vs H Q _ => ∃ (a : Addr) (ns : List Int) (k : Int), vs = [.ref a, .int k] ∧ SqL K H a (ns.map V.int) ∧ ns.length ≤ 63 ∧ 0 ≤ k ∧ k < 64 ∧ ∀ p H', H p = none → Same H H' → Pu H' p 0 → Q (.ref p) H'
def spCoin : Sp := fun vs H Q _ => ∃ (p : Addr) (many n : Int), vs = [.ref p, .int many] ∧ Pu H p n ∧ n < 2 ^ 30 ∧ 1 ≤ many ∧ many < 2 ^ 300 ∧
  ∀ r H', 0 ≤ r → r < many → Pu H' p (n + 1) → Keep p H H' → Q (.int r) H'

/-- a def that stands under its name and keeps its promise -/
def Cal (P : Program) (w : World) (K : PySem.W.Frag) (mg : Str → Option Value) (base : Heap) (k : Nat) (x : Str) (ps : List Str) (sp : Sp) : Prop :=
  ∃ (f : Addr) (fd : FuncData), FnOk P w K mg base CX0 k f fd ps sp ∧ mg x = some (.ref f) ∧ PySem.W.keepIn K (.ref f) = true ∧ Binds K fd ps []

abbrev primesL : List V := [.int 2147483489, .int 2147483477, .int 2147483423, .int 2147483399, .int 2147483353, .int 2147483323, .int 2147483269, .int 2147483249]
theorem prime_at {i : Int} (h0 : 0 ≤ i) (h8 : i < 8) : ∃ v : Int, atI primesL i = some (.int v) ∧ 2147483249 ≤ v ∧ v ≤ 2147483489 := by
  have h : i = 0 ∨ i = 1 ∨ i = 2 ∨ i = 3 ∨ i = 4 ∨ i = 5 ∨ i = 6 ∨ i = 7 := by omega
  rcases h with h | h | h | h | h | h | h | h <;> subst h <;> exact ⟨_, rfl, by decide, by decide⟩

theorem yesC {σ : L2.St} {H : Hp} {A B : Hp → Prop} (h : A H) : tYes σ H (fun b H3 => if b = true then A H3 else B H3) := by
  show (if true = true then A H else B H)
  rw [if_pos rfl]
  exact h

/-! ### data readings: what stands in the heap as data -/
/-- the tables of code objects that may grow -/
class Tabz where
  T : List (Addr × Str)
/-- a family of states: what holds of a state's data (in the heap where all that may change is hidden), of what may be changed, where that stands -/
class Fam where
  S : Type
  Tq : V → V → Hp → Hp → S → Prop
  Pq : V → V → S → Addr → Prop
  mv : ∀ {u t : V} {M M' H H' : Hp} {n : S}, Tq u t M H n → (∀ b o, (∀ ps, o ≠ HO.tbl ps) → M b = some o → M' b = some o) → (∀ b o, Pq u t n b → H b = some o → H' b = some o) → Tq u t M' H' n
  ty : ∀ {u t : V} {M H : Hp} {n : S} {a : Addr}, Tq u t M H n → Pq u t n a → ∃ o, H a = some o ∧ ∀ ps, o ≠ HO.tbl ps
mutual
inductive Rp (H : Hp) : V → PyData → Prop
  | non : Rp H .non .none
  | bl (b : Bool) : Rp H (.bl b) (.bool b)
  | int (i : Int) : Rp H (.int i) (.int i)
  | str (x : Str) : Rp H (.str x) (.str x)
  | hnd (a : Addr) : Rp H (.ref a) (.dict [(.none, .int (a : Nat))])
  | lst {a : Addr} {xs : List V} {ds : List PyData} : H a = some (.lst xs) → RpA H xs ds → Rp H (.ref a) (.list ds)
  | tup {a : Addr} {xs : List V} {ds : List PyData} : H a = some (.tup xs) → RpA H xs ds → Rp H (.ref a) (.tuple ds)
inductive RpA (H : Hp) : List V → List PyData → Prop
  | nil : RpA H [] []
  | cons {v : V} {vs : List V} {d : PyData} {ds : List PyData} : Rp H v d → RpA H vs ds → RpA H (v :: vs) (d :: ds)
end
/-- all but tables of code objects stays -/
def Xt (H H' : Hp) : Prop := ∀ b o, (∀ ps, o ≠ HO.tbl ps) → H b = some o → H' b = some o
theorem Rp.ex {M M' : Hp} {v : V} {d : PyData} (r : Rp M v d) (e : Xt M M') : Rp M' v d := by
  refine Rp.rec (motive_1 := fun v d _ => Rp M' v d) (motive_2 := fun vs ds _ => RpA M' vs ds) .non (fun b => .bl b) (fun i => .int i) (fun x => .str x) (fun a => .hnd a) ?_ ?_ .nil ?_ r
  · intro a xs ds h _ ih
    exact .lst (e _ _ (fun ps z => by cases z) h) ih
  · intro a xs ds h _ ih
    exact .tup (e _ _ (fun ps z => by cases z) h) ih
  · intro v vs d ds _ _ h1 h2
    exact .cons h1 h2
theorem RpA.ex {M M' : Hp} {vs : List V} {ds : List PyData} (r : RpA M vs ds) (e : Xt M M') : RpA M' vs ds := by
  refine RpA.rec (motive_1 := fun v d _ => Rp M' v d) (motive_2 := fun vs ds _ => RpA M' vs ds) .non (fun b => .bl b) (fun i => .int i) (fun x => .str x) (fun a => .hnd a) ?_ ?_ .nil ?_ r
  · intro a xs ds h _ ih
    exact .lst (e _ _ (fun ps z => by cases z) h) ih
  · intro a xs ds h _ ih
    exact .tup (e _ _ (fun ps z => by cases z) h) ih
  · intro v vs d ds _ _ h1 h2
    exact .cons h1 h2
theorem Rp.dp {K : PySem.W.Frag} {M : Hp} {v : V} {d : PyData} (r : Rp M v d) (hl : d.canLay0 = true) : Dp K M v d := by
  refine Rp.rec (motive_1 := fun v d _ => d.canLay0 = true → Dp K M v d) (motive_2 := fun vs ds _ => PyData.canLayAll0 ds = true → DpAll K M vs ds) (fun _ => .non) (fun b _ => .bl b) (fun i _ => .int i) (fun x _ => .str x) ?_ ?_ ?_ (fun _ => .nil) ?_ r hl
  · intro a h
    simp [PyData.canLay0] at h
  · intro a xs ds h _ ih hl
    exact .lst (SqL.of h) (ih (by simpa [PyData.canLay0] using hl))
  · intro a xs ds h _ ih hl
    exact .tup (SqT.of h) (ih (by simpa [PyData.canLay0] using hl))
  · intro v vs d ds _ _ h1 h2 hl
    simp only [PyData.canLayAll0, Bool.and_eq_true] at hl
    exact .cons (h1 hl.1) (h2 hl.2)
theorem RpA.length {M : Hp} : ∀ {vs : List V} {ds : List PyData}, RpA M vs ds → vs.length = ds.length
  | _, _, .nil => rfl
  | _, _, .cons _ t => by
    show _ + 1 = _ + 1
    rw [RpA.length t]
theorem RpA.get {M : Hp} : ∀ {vs : List V} {ds : List PyData} {i : Nat} {d : PyData}, RpA M vs ds → ds[i]? = some d → ∃ v, vs[i]? = some v ∧ Rp M v d
  | _, _, _, _, .nil, e => by simp at e
  | _, _, 0, _, .cons r _, e => by
    simp at e
    subst e
    exact ⟨_, rfl, r⟩
  | _, _, i + 1, d, .cons _ t, e => by
    obtain ⟨v, h1, h2⟩ := RpA.get (i := i) (d := d) t (by simpa using e)
    exact ⟨v, by simpa using h1, h2⟩
theorem RpA.app {M : Hp} : ∀ {vs ws : List V} {ds es : List PyData}, RpA M vs ds → RpA M ws es → RpA M (vs ++ ws) (ds ++ es)
  | _, _, _, _, .nil, s => s
  | _, _, _, _, .cons r t, s => .cons r (RpA.app t s)
theorem RpA.one {M : Hp} {v : V} {d : PyData} (r : Rp M v d) : RpA M [v] [d] := .cons r .nil
theorem RpA.set {M : Hp} {v : V} {d : PyData} (r : Rp M v d) : ∀ {vs : List V} {ds : List PyData} (i : Nat), RpA M vs ds → RpA M (vs.set i v) (ds.set i d)
  | _, _, _, .nil => .nil
  | _, _, 0, .cons _ t => .cons r t
  | _, _, i + 1, .cons q t => .cons q (RpA.set r i t)
theorem RpA.take {M : Hp} : ∀ {vs : List V} {ds : List PyData} (n : Nat), RpA M vs ds → RpA M (vs.take n) (ds.take n)
  | _, _, 0, _ => .nil
  | _, _, _ + 1, .nil => .nil
  | _, _, n + 1, .cons r t => .cons r (RpA.take n t)
theorem RpA.drop {M : Hp} : ∀ {vs : List V} {ds : List PyData} (n : Nat), RpA M vs ds → RpA M (vs.drop n) (ds.drop n)
  | _, _, 0, r => r
  | _, _, _ + 1, .nil => .nil
  | _, _, n + 1, .cons _ t => RpA.drop n t
theorem RpA.rev {M : Hp} : ∀ {vs : List V} {ds : List PyData}, RpA M vs ds → RpA M vs.reverse ds.reverse
  | _, _, .nil => .nil
  | _, _, .cons r t => by
    rw [List.reverse_cons, List.reverse_cons]
    exact (RpA.rev t).app (.one r)
theorem RpA.ints {M : Hp} : ∀ {vs : List V} {ns : List Int}, RpA M vs (ns.map PyData.int) → vs = ns.map V.int
  | [], [], _ => rfl
  | _, [], h => by cases h; rfl
  | _, n :: ns, h => by
    cases h with
    | cons r t =>
      cases r
      rw [RpA.ints t]
      rfl
theorem RpA.bools {M : Hp} : ∀ {vs : List V} {ns : List Bool}, RpA M vs (ns.map PyData.bool) → vs = ns.map V.bl
  | [], [], _ => rfl
  | _, [], h => by cases h; rfl
  | _, n :: ns, h => by
    cases h with
    | cons r t =>
      cases r
      rw [RpA.bools t]
      rfl
/-- a heap with some places hidden -/
noncomputable def msk (B : Addr → Prop) (H : Hp) : Hp := fun b => open Classical in if B b then none else H b
theorem msk_out {B : Addr → Prop} {H : Hp} {b : Addr} (n : ¬ B b) : msk B H b = H b := by
  unfold msk
  rw [if_neg n]
theorem msk_some {B : Addr → Prop} {H : Hp} {b : Addr} {o : HO} (h : msk B H b = some o) : ¬ B b ∧ H b = some o := by
  unfold msk at h
  split at h
  · cases h
  · exact ⟨by assumption, h⟩
theorem msk_le {B : Addr → Prop} {H : Hp} : Xt (msk B H) H := fun b o _ h => (msk_some h).2
/-- what a place is new ahead of: nothing stands there, or a table -/
def Fresh (H : Hp) (a : Addr) : Prop := ∀ o, H a = some o → ∃ ps, o = HO.tbl ps
theorem Fresh.of {H : Hp} {a : Addr} (h : H a = none) : Fresh H a := fun o e => by
  rw [h] at e
  cases e
/-- what a name holds, what is told: data; a list or a dict of one's own; a value as it is -/
inductive DV where
  | un | tape | raw (v : V) | d (x : PyData) | own (xs : List PyData) | dic (kvs : List (Key × PyData))
def DV.isOwn : DV → Bool
  | .own _ => true
  | .dic _ => true
  | _ => false
inductive KRp (M : Hp) : List (Key × V) → List (Key × PyData) → Prop
  | nil : KRp M [] []
  | cons {k : Key} {v : V} {d : PyData} {ws : List (Key × V)} {kvs : List (Key × PyData)} : Rp M v d → KRp M ws kvs → KRp M ((k, v) :: ws) ((k, d) :: kvs)
theorem KRp.ex {M M' : Hp} {ws : List (Key × V)} {kvs : List (Key × PyData)} (r : KRp M ws kvs) (e : Xt M M') : KRp M' ws kvs := by
  induction r with
  | nil => exact .nil
  | cons h _ ih => exact .cons (h.ex e) ih
section
variable [Fam] [Tabz]
/-- where a def stands: the heap and the state at its entry, what its callers keep apart, what may be changed, what holds of that -/
structure EC where
  H0 : Hp
  n0 : Fam.S
  B0 : Addr → Prop
  t : V
  u : V
  pins : List (V × PyData)
  Bs : ∀ a, B0 a → (∃ o, H0 a = some o ∧ ∀ ps, o ≠ HO.tbl ps) ∧ ¬ Fam.Pq u t n0 a
/-- what may be changed, what holds of it -/
def EC.P (c : EC) (n : Fam.S) (a : Addr) : Prop := Fam.Pq c.u c.t n a
def EC.B (c : EC) (n : Fam.S) (a : Addr) : Prop := c.B0 a ∨ c.P n a
def EC.G (c : EC) (n : Fam.S) (M H : Hp) : Prop := Fam.Tq c.u c.t M H n ∧ LamX.Tabs Tabz.T H
theorem Tabs_mv {T : List (Addr × Str)} {H H' : Hp} (h : LamX.Tabs T H) (k : ∀ b o, (∀ xs, o ≠ HO.lst xs) → (∀ kvs, o ≠ HO.dK kvs) → (∀ C dx fs, o ≠ HO.ins C dx fs) → H b = some o → H' b = some o) : LamX.Tabs T H' := fun p hp => by
  obtain ⟨ps, h1, h2, h3⟩ := h p hp
  refine ⟨ps, k _ _ (fun xs z => by cases z) (fun xs z => by cases z) (fun _ _ _ z => by cases z) h1, h2, fun pos cv hc => ?_⟩
  obtain ⟨c, e1, e2⟩ := h3 pos cv hc
  exact ⟨c, e1, k _ _ (fun xs z => by cases z) (fun xs z => by cases z) (fun _ _ _ z => by cases z) e2⟩
theorem EC.Gm (c : EC) (n : Fam.S) (M M' H H' : Hp) (g : c.G n M H) (m : Xt M M') (k : ∀ b o, (∀ xs, o ≠ HO.lst xs) → (∀ kvs, o ≠ HO.dK kvs) → (∀ C dx fs, o ≠ HO.ins C dx fs) → H b = some o → H' b = some o) (k2 : ∀ b o, c.P n b → H b = some o → H' b = some o) : c.G n M' H' :=
  ⟨Fam.mv g.1 m k2, Tabs_mv g.2 k⟩
theorem EC.Gx (c : EC) {n : Fam.S} {M M' H : Hp} (g : c.G n M H) (m : Xt M M') : c.G n M' H := c.Gm n M M' H H g m (fun _ _ _ _ _ h => h) fun _ _ _ h => h
theorem EC.Gs (c : EC) (n : Fam.S) (M H : Hp) (a : Addr) (g : c.G n M H) (p : c.P n a) : ∃ o, H a = some o ∧ ∀ ps, o ≠ HO.tbl ps := Fam.ty g.1 p
def EC.av (c : EC) (n : Fam.S) (A : Nat → Option Addr) : Addr → Prop := fun b => c.B n b ∨ ∃ i, A i = some b
def EC.pin (c : EC) (l : List (V × PyData)) : EC := { c with pins := l ++ c.pins }
theorem EC.PB (c : EC) {n : Fam.S} {a : Addr} (p : c.P n a) : c.B n a := .inr p
/-- what stays -/
def Stay (P P' : Addr → Prop) (H H' : Hp) : Prop := ∀ b o, (∀ ps, o ≠ HO.tbl ps) → H b = some o → (¬ P b → H' b = some o ∧ ¬ P' b) ∧ ∃ o', H' b = some o' ∧ ∀ ps, o' ≠ HO.tbl ps
theorem Stay.refl {P : Addr → Prop} {H : Hp} : Stay P P H H := fun _ o q h => ⟨fun p => ⟨h, p⟩, o, h, q⟩
theorem Stay.trans {P P' P2 : Addr → Prop} {H H' H2 : Hp} (a : Stay P P' H H') (b : Stay P' P2 H' H2) : Stay P P2 H H2 := fun x o q h => ⟨fun p => (b x o q ((a x o q h).1 p).1).1 ((a x o q h).1 p).2, by
  obtain ⟨_, o', h1, h2⟩ := a x o q h
  exact (b x o' h2 h1).2⟩
theorem Stay.same {P : Addr → Prop} {H H' : Hp} (s : ∀ b o, H b = some o → H' b = some o) : Stay P P H H' := fun b o q h => ⟨fun p => ⟨s b o h, p⟩, o, s b o h, q⟩
theorem Stay.k {P P' : Addr → Prop} {H H' : Hp} (s : Stay P P' H H') {b : Addr} {o : HO} (p : ¬ P b) (q : ∀ ps, o ≠ HO.tbl ps) (h : H b = some o) : H' b = some o := ((s b o q h).1 p).1
theorem Stay.n {P P' : Addr → Prop} {H H' : Hp} (s : Stay P P' H H') {b : Addr} {o : HO} (p : ¬ P b) (q : ∀ ps, o ≠ HO.tbl ps) (h : H b = some o) : ¬ P' b := ((s b o q h).1 p).2
/-- a list, a dict of one's own that is told, hidden, too -/
def hide : DV → V → (Addr → Prop) → Addr → Prop
  | .own _, v, B => fun b => B b ∨ v = .ref b
  | .dic _, v, B => fun b => B b ∨ v = .ref b
  | _, _, B => B
theorem hide_le {r : DV} {v : V} {B : Addr → Prop} {b : Addr} (h : B b) : hide r v B b := by
  cases r <;> first | exact .inl h | exact h
theorem hide_xt {r : DV} {v : V} {B : Addr → Prop} {H : Hp} : Xt (msk (hide r v B) H) (msk B H) := fun b o _ e => by
  obtain ⟨h1, h2⟩ := msk_some e
  rw [msk_out fun z => h1 (hide_le z)]
  exact h2
def FrV (c : EC) (A : Nat → Option Addr) (n n' : Fam.S) (H H' : Hp) (v : V) (r : DV) : Prop := Stay (c.P n) (c.P n') H H' ∧ c.G n' (msk (hide r v (c.av n' A)) H') H'
abbrev Fr (c : EC) (A : Nat → Option Addr) (n n' : Fam.S) (H H' : Hp) : Prop := FrV c A n n' H H' .non .un
theorem FrV.k {c : EC} {A : Nat → Option Addr} {n n' : Fam.S} {H H' : Hp} {v : V} {r : DV} (f : FrV c A n n' H H' v r) (b : Addr) (o : HO) (p : ¬ c.P n b) (q : ∀ ps, o ≠ HO.tbl ps) (h : H b = some o) : H' b = some o := f.1.k p q h
theorem FrV.g {c : EC} {A : Nat → Option Addr} {n n' : Fam.S} {H H' : Hp} {v : V} {r : DV} (f : FrV c A n n' H H' v r) : c.G n' (_root_.Rh.msk (c.av n' A) H') H' := c.Gx f.2 hide_xt
theorem FrV.fr {c : EC} {A : Nat → Option Addr} {n n' : Fam.S} {H H' : Hp} {v : V} {r : DV} (f : FrV c A n n' H H' v r) : Fr c A n n' H H' := ⟨f.1, f.g⟩
theorem FrV.refl {c : EC} {A : Nat → Option Addr} {n : Fam.S} {H : Hp} {v : V} {r : DV} (g : c.G n (_root_.Rh.msk (hide r v (c.av n A)) H) H) : FrV c A n n H H v r := ⟨.refl, g⟩
theorem Fr.refl {c : EC} {A : Nat → Option Addr} {n : Fam.S} {H : Hp} (g : c.G n (_root_.Rh.msk (c.av n A) H) H) : Fr c A n n H H := ⟨.refl, g⟩
theorem FrV.trans {c : EC} {A : Nat → Option Addr} {n m k : Fam.S} {H H1 H2 : Hp} {v w : V} {r s : DV} (a : FrV c A n m H H1 v r) (b : FrV c A m k H1 H2 w s) : FrV c A n k H H2 w s := ⟨a.1.trans b.1, b.2⟩
theorem FrV.msk {c : EC} {n m : Fam.S} {A : Nat → Option Addr} {H H' : Hp} {v : V} {r : DV} (f : FrV c A n m H H' v r) : Xt (_root_.Rh.msk (c.av n A) H) (_root_.Rh.msk (c.av m A) H') := fun b o q h => by
  obtain ⟨h1, h2⟩ := msk_some h
  have h3 := f.1.k (fun p => h1 (.inl (c.PB p))) q h2
  have h4 := f.1.n (fun p => h1 (.inl (c.PB p))) q h2
  rw [msk_out]
  · exact h3
  · rintro ((z | z) | z)
    · exact h1 (.inl (.inl z))
    · exact h4 z
    · exact h1 (.inr z)
theorem Fr.new {c : EC} {A : Nat → Option Addr} {n : Fam.S} {H : Hp} {p : Addr} {o : HO} (g : c.G n (_root_.Rh.msk (c.av n A) H) H) (h : H p = none) : Fr c A n n H (upd H p o) := by
  refine ⟨.same fun b u e => ?_, c.Gm n _ _ H _ g (fun b u _ e => ?_) (fun b u _ _ _ e => ?_) fun b u _ e => ?_⟩
  · rw [upd_ne (ne_of_none e h)]; exact e
  · obtain ⟨h1, h2⟩ := msk_some e
    show _root_.Rh.msk (c.av n A) (upd H p o) b = some u
    rw [msk_out h1, upd_ne (ne_of_none h2 h)]
    exact h2
  · rw [upd_ne (ne_of_none e h)]; exact e
  · rw [upd_ne (ne_of_none e h)]; exact e
/-- a name's slot -/
def SlOk (t : V) (M H : Hp) (ao : Option Addr) (s : Option (Option V)) : DV → Prop
  | .un => True
  | .tape => s = some (some t) ∧ ∃ a, t = .ref a
  | .raw v => s = some (some v)
  | .d x => ∃ v, s = some (some v) ∧ Rp M v x
  | .own ds => ∃ a vs, ao = some a ∧ s = some (some (.ref a)) ∧ H a = some (.lst vs) ∧ RpA M vs ds
  | .dic kvs => ∃ a ws, ao = some a ∧ s = some (some (.ref a)) ∧ H a = some (.dK ws) ∧ KRp M ws kvs
structure EnvA (c : EC) (A : Nat → Option Addr) (n : Fam.S) (σ : L2.St) (H : Hp) (ρ : List DV) : Prop where
  keep : Stay (c.P c.n0) (c.P n) c.H0 H
  g : c.G n (msk (c.av n A) H) H
  new : ∀ i a, A i = some a → Fresh c.H0 a
  has : ∀ i a, A i = some a → (∃ o, H a = some o ∧ ∀ ps, o ≠ HO.tbl ps) ∧ ¬ c.P n a
  inj : ∀ i j a, A i = some a → A j = some a → i = j
  slot : ∀ i x, ρ[i]? = some x → SlOk c.t (msk (c.av n A) H) H (A i) (σ[i]?) x
  len : ρ.length = σ.length
  pin : ∀ p ∈ c.pins, Rp (msk (c.av n A) H) p.1 p.2
  fin : ∃ N, ∀ k, N ≤ k → A k = none
  mine : ∀ i a x, A i = some a → ρ[i]? = some x → x.isOwn = true
section
variable {c : EC} {A : Nat → Option Addr} {n m k : Fam.S} {σ : L2.St} {H H' H1 : Hp} {ρ : List DV}
def A0 : Nat → Option Addr := fun _ => none
theorem EC.Gmk (c : EC) {n : Fam.S} {A A' : Nat → Option Addr} {H : Hp} (g : c.G n (msk (c.av n A) H) H) (k : ∀ i a, A' i = some a → ∃ j, A j = some a) : c.G n (msk (c.av n A') H) H := c.Gx g fun b o _ e => by
  obtain ⟨h1, h2⟩ := msk_some e
  rw [msk_out]
  · exact h2
  · rintro (z | ⟨i, z⟩)
    · exact h1 (.inl z)
    · exact h1 (.inr (k i b z))
theorem EnvA.fr0 (E : EnvA c A n σ H ρ) : Fr c A0 c.n0 n c.H0 H := ⟨E.keep, c.Gmk E.g fun i a e => by cases e⟩
theorem EnvA.nB (E : EnvA c A n σ H ρ) {b : Addr} (h : c.B0 b) : ∃ o, (H b = some o ∧ ∀ ps, o ≠ HO.tbl ps) ∧ ¬ c.P n b := by
  obtain ⟨⟨o, h1, h2⟩, h3⟩ := c.Bs b h
  exact ⟨o, ⟨E.keep.k h3 h2 h1, h2⟩, E.keep.n h3 h2 h1⟩
theorem EnvA.nP (E : EnvA c A n σ H ρ) {i : Nat} {a : Addr} (h : A i = some a) : ¬ c.B n a := fun b => by
  rcases b with b | b
  · obtain ⟨⟨o, h1, h2⟩, h3⟩ := c.Bs a b
    obtain ⟨ps, e⟩ := E.new i a h o h1
    exact h2 ps e
  · exact (E.has i a h).2 b
theorem EnvA.there (E : EnvA c A n σ H ρ) {b : Addr} (h : c.av n A b) : ∃ o, H b = some o ∧ ∀ ps, o ≠ HO.tbl ps := by
  rcases h with (h | p) | ⟨i, h⟩
  · obtain ⟨o, h1, _⟩ := E.nB h
    exact ⟨o, h1⟩
  · exact c.Gs n _ H b E.g p
  · exact (E.has i b h).1
theorem EnvA.apart (E : EnvA c A n σ H ρ) {b : Addr} (h : Fresh H b) : ¬ c.av n A b := fun q => by
  obtain ⟨o, h1, h2⟩ := E.there q
  obtain ⟨ps, e⟩ := h o h1
  exact h2 ps e
theorem SlOk.ex {t : V} {M M' : Hp} {ao : Option Addr} {s : Option (Option V)} {x : DV} (h : SlOk t M H ao s x) (e : Xt M M') (k : ∀ a o, ao = some a → (∀ ps, o ≠ HO.tbl ps) → H a = some o → H' a = some o) : SlOk t M' H' ao s x := by
  cases x with
  | un => exact True.intro
  | tape => exact h
  | raw v => exact h
  | d x =>
    obtain ⟨v, h1, h2⟩ := h
    exact ⟨v, h1, h2.ex e⟩
  | own ds =>
    obtain ⟨a, vs, h1, h2, h3, h4⟩ := h
    exact ⟨a, vs, h1, h2, k a _ h1 (fun ps z => by cases z) h3, h4.ex e⟩
  | dic kvs =>
    obtain ⟨a, vs, h1, h2, h3, h4⟩ := h
    exact ⟨a, vs, h1, h2, k a _ h1 (fun ps z => by cases z) h3, h4.ex e⟩
theorem EnvA.fr {v : V} {r : DV} (E : EnvA c A n σ H ρ) (f : FrV c A n m H H' v r) : EnvA c A m σ H' ρ where
  keep := E.keep.trans f.1
  g := f.g
  new := E.new
  has := fun i a h => by
    obtain ⟨⟨o, h1, h2⟩, h3⟩ := E.has i a h
    exact ⟨⟨o, f.k a o h3 h2 h1, h2⟩, f.1.n h3 h2 h1⟩
  inj := E.inj
  slot := fun i x h => (E.slot i x h).ex f.msk fun a o h1 h2 h3 => f.k a o (E.has i a h1).2 h2 h3
  len := E.len
  pin := fun p hp => (E.pin p hp).ex f.msk
  fin := E.fin
  mine := E.mine
/-- what is told -/
def VOk (t : V) (B : Addr → Prop) (H : Hp) (v : V) (H' : Hp) : DV → Prop
  | .un => False
  | .tape => v = t ∧ ∃ a, t = .ref a
  | .raw _ => False
  | .d x => Rp (msk B H') v x
  | .own ds => ∃ a vs, v = .ref a ∧ (Fresh H a ∧ ¬ B a) ∧ H' a = some (.lst vs) ∧ RpA (msk (fun b => B b ∨ b = a) H') vs ds
  | .dic kvs => ∃ a ws, v = .ref a ∧ (Fresh H a ∧ ¬ B a) ∧ H' a = some (.dK ws) ∧ KRp (msk (fun b => B b ∨ b = a) H') ws kvs
/-- what is one's own is left as data -/
def DV.cold : DV → DV
  | .own ds => .d (.list ds)
  | x => x
theorem Fresh.fr {v : V} {r : DV} (f : FrV c A n m H H' v r) {a : Addr} (h : Fresh H' a) : Fresh H a := fun o e => by
  apply Classical.byContradiction
  intro no
  have t : ∀ ps, o ≠ HO.tbl ps := fun ps z => no ⟨ps, z⟩
  obtain ⟨_, o', h1, h2⟩ := f.1 a o t e
  obtain ⟨ps, z⟩ := h o' h1
  exact h2 ps z
theorem VOk.mono {w : V} {r : DV} (E : EnvA c A n σ H ρ) (f : FrV c A n m H H1 w r) {v : V} {x : DV} (h : VOk c.t (c.av k A) H1 v H' x) : VOk c.t (c.av k A) H v H' x := by
  cases x with
  | un => exact h
  | tape => exact h
  | raw v => exact h
  | d x => exact h
  | own ds =>
    obtain ⟨a, vs, h1, h2, h3, h4⟩ := h
    exact ⟨a, vs, h1, ⟨h2.1.fr f, h2.2⟩, h3, h4⟩
  | dic kvs =>
    obtain ⟨a, vs, h1, h2, h3, h4⟩ := h
    exact ⟨a, vs, h1, ⟨h2.1.fr f, h2.2⟩, h3, h4⟩
/-- later it stands as it stood -/
theorem VOk.later (E : EnvA c A n σ H ρ) {m' : Fam.S} {v : V} {x : DV} {w w' : V} {r r' : DV} (h : VOk c.t (c.av m A) H v H1 x) (f : FrV c A n m H H1 w r) (f' : FrV c A m m' H1 H' w' r') : VOk c.t (c.av m' A) H v H' x := by
  have ap : ∀ {a : Addr}, ¬ c.av m A a → ¬ c.P m a := fun fr p => fr (.inl (c.PB p))
  have av' : ∀ {a : Addr} {o : HO}, ¬ c.av m A a → H1 a = some o → (∀ ps, o ≠ HO.tbl ps) → ¬ c.av m' A a := fun {a o} h1 h2 h3 z => by
    rcases z with (z | z) | z
    · exact h1 (.inl (.inl z))
    · exact f'.1.n (ap h1) h3 h2 z
    · exact h1 (.inr z)
  have xt : ∀ {a : Addr}, Xt (msk (fun b => c.av m A b ∨ b = a) H1) (msk (fun b => c.av m' A b ∨ b = a) H') := fun {a} b o q h => by
    obtain ⟨h1, h2⟩ := msk_some h
    rw [msk_out]
    · exact f'.k b o (ap fun z => h1 (.inl z)) q h2
    · rintro (z | z)
      · exact av' (fun z => h1 (.inl z)) h2 q z
      · exact h1 (.inr z)
  cases x with
  | un => exact h
  | tape => exact h
  | raw v => exact h
  | d x => exact Rp.ex h f'.msk
  | own ds =>
    obtain ⟨a, vs, h1, h2, h3, h4⟩ := h
    exact ⟨a, vs, h1, ⟨h2.1, av' h2.2 h3 (fun ps z => by cases z)⟩, f'.k a _ (ap h2.2) (fun ps z => by cases z) h3, h4.ex xt⟩
  | dic kvs =>
    obtain ⟨a, vs, h1, h2, h3, h4⟩ := h
    exact ⟨a, vs, h1, ⟨h2.1, av' h2.2 h3 (fun ps z => by cases z)⟩, f'.k a _ (ap h2.2) (fun ps z => by cases z) h3, h4.ex xt⟩
theorem VOk.cold {B : Addr → Prop} {v : V} {x : DV} {t : V} (h : VOk t B H v H' x) : VOk t B H v H' x.cold := by
  cases x with
  | own ds =>
    obtain ⟨a, vs, rfl, h2, h3, h4⟩ := h
    refine .lst (by rw [msk_out h2.2]; exact h3) (h4.ex fun b o _ e => ?_)
    obtain ⟨h5, h6⟩ := msk_some e
    rw [msk_out fun z => h5 (.inl z)]
    exact h6
  | un => exact h
  | tape => exact h
  | raw v => exact h
  | d x => exact h
  | dic kvs => exact h
end
end

/-! ### data readings: expressions -/
section
variable [Fam] [Tabz]
abbrev DQ := DV → Fam.S → Prop
abbrev DF := List DV → Fam.S → DQ → Prop
abbrev DT := List DV → Fam.S → (Bool → Fam.S → Prop) → Prop
abbrev DA := List DV → Fam.S → (List DV → Fam.S → Prop) → Prop
def tD (f : DF) : TE := fun σ H Q => ∃ (c : EC) (A : Nat → Option Addr) (n : Fam.S) (ρ : List DV) (Q' : DQ), EnvA c A n σ H ρ ∧ f ρ n Q' ∧ ∀ v r n' H', Q' r n' → FrV c A n n' H H' v r → VOk c.t (c.av n' A) H v H' r → Q v H'
def tDT (f : DT) : TT := fun σ H Q => ∃ (c : EC) (A : Nat → Option Addr) (n : Fam.S) (ρ : List DV) (Q' : Bool → Fam.S → Prop), EnvA c A n σ H ρ ∧ f ρ n Q' ∧ ∀ b n' H', Q' b n' → Fr c A n n' H H' → Q b H'
/-- arguments: what is one's own is told as data -/
inductive VsOk (t : V) (B : Addr → Prop) (H : Hp) (H' : Hp) : List V → List DV → Prop
  | nil : VsOk t B H H' [] []
  | cons {v : V} {r : DV} {vs : List V} {rs : List DV} : VOk t B H v H' r → r.cold = r → VsOk t B H H' vs rs → VsOk t B H H' (v :: vs) (r :: rs)
def tDA (f : DA) : TA := fun σ H Q => ∃ (c : EC) (A : Nat → Option Addr) (n : Fam.S) (ρ : List DV) (Q' : List DV → Fam.S → Prop), EnvA c A n σ H ρ ∧ f ρ n Q' ∧ ∀ vs rs n' H', Q' rs n' → Fr c A n n' H H' → VsOk c.t (c.av n' A) H H' vs rs → Q vs H'
theorem _root_.L2.PE.imp {X : Cx} {e : Expr} {t t' : TE} (h : PE X e t) (i : ∀ σ H Q, t' σ H Q → t σ H Q) : PE X e t' := ⟨fun pins s σ H Q I q => h.run pins s σ H Q I (i σ H Q q)⟩
theorem _root_.L2.PT.imp {X : Cx} {e : Expr} {t t' : TT} (h : PT X e t) (i : ∀ σ H Q, t' σ H Q → t σ H Q) : PT X e t' := ⟨fun pins s σ H Q I q => h.run pins s σ H Q I (i σ H Q q)⟩
theorem _root_.L2.PW.imp {X : Cx} {e : Expr} {t t' : TT} (h : PW X e t) (i : ∀ σ H Q, t' σ H Q → t σ H Q) : PW X e t' := ⟨fun whole pins s σ H Q I q => h.run whole pins s σ H Q I (i σ H Q q)⟩
theorem _root_.L2.PA.imp {X : Cx} {es : List Expr} {t t' : TA} (h : PA X es t) (i : ∀ σ H Q, t' σ H Q → t σ H Q) : PA X es t' := ⟨fun pos pins s σ H Q I q => h.run pos pins s σ H Q I (i σ H Q q)⟩
theorem _root_.L2.PSs.imp {X : Cx} {st : List Stmt} {t t' : TS} (h : PSs X st t) (i : ∀ D σ H, t' D σ H → t D σ H) : PSs X st t' := ⟨fun pins s σ H D I q => h.run pins s σ H D I (i D σ H q)⟩
theorem _root_.L2.PS.imp {X : Cx} {st : Stmt} {t t' : TS} (h : PS X st t) (i : ∀ D σ H, t' D σ H → t D σ H) : PS X st t' := ⟨fun pins s σ H D I q => h.run pins s σ H D I (i D σ H q)⟩

/-- a name -/
def dV (i : Nat) : DF := fun ρ n Q => (∃ d, ρ[i]? = some (.d d) ∧ Q (.d d) n) ∨ (ρ[i]? = some .tape ∧ Q .tape n)
theorem pdV {X : Cx} {i : Nat} {e : Expr} (h : PE X e (tVar i)) : PE X e (tD (dV i)) := h.imp fun σ H Q ⟨c, A, n, ρ, Q', E, hf, k⟩ => by
  rcases hf with ⟨d, h1, h2⟩ | ⟨h1, h2⟩
  · obtain ⟨v, h3, h4⟩ := E.slot i _ h1
    exact ⟨v, h3, k v _ n H h2 (.refl E.g) h4⟩
  · exact ⟨c.t, (E.slot i _ h1).1, k c.t _ n H h2 (.refl E.g) ⟨rfl, (E.slot i _ h1).2⟩⟩
def dC (d : PyData) : DF := fun _ n Q => Q (.d d) n
def datC : V → Option PyData
  | .non => some .none
  | .bl b => some (.bool b)
  | .int i => some (.int i)
  | .str x => some (.str x)
  | _ => none
theorem datC_rp {v : V} {d : PyData} {M : Hp} (h : datC v = some d) : Rp M v d := by
  cases v <;> simp [datC] at h <;> subst h <;> constructor
theorem pdC {X : Cx} {v : V} {d : PyData} {e : Expr} (h : PE X e (tC v)) (hd : datC v = some d := by rfl) : PE X e (tD (dC d)) := h.imp fun σ H Q ⟨c, A, n, ρ, Q', E, hf, k⟩ => k v _ n H hf (.refl E.g) (datC_rp hd)
/-- what is told, as data -/
def DV.dat : DV → Option PyData
  | .d x => some x
  | .own ds => some (.list ds)
  | _ => none
theorem VOk.dat {c : EC} {A : Nat → Option Addr} {n k : Fam.S} {σ : L2.St} {H H0 H' : Hp} {ρ : List DV} (_E : EnvA c A n σ H0 ρ) {v : V} {x : DV} {d : PyData} (h : VOk c.t (c.av k A) H v H' x) (e : x.dat = some d) : Rp (msk (c.av k A) H') v d := by
  have q := h.cold
  cases x with
  | d y =>
    cases e
    exact q
  | own ds =>
    cases e
    exact q
  | _ => cases e
/-- operators by values -/
def R2D (r : R2) (op : PyData → PyData → Option DV) : Prop := ∀ (t : V) (B : Addr → Prop) (H : Hp) (v w : V) (a b : PyData) (z : DV) (Q : VK), (∀ b, B b → ∃ o, H b = some o) → Rp (msk B H) v a → Rp (msk B H) w b → op a b = some z →
  (∀ u H', (∀ p o, H p = some o → H' p = some o) → VOk t B H u H' z → Q u H') → r v w H Q
def R1D (r : V → Hp → VK → Prop) (op : PyData → Option DV) : Prop := ∀ (t : V) (B : Addr → Prop) (H : Hp) (v : V) (a : PyData) (z : DV) (Q : VK), (∀ b, B b → ∃ o, H b = some o) → Rp (msk B H) v a → op a = some z →
  (∀ u H', (∀ p o, H p = some o → H' p = some o) → VOk t B H u H' z → Q u H') → r v H Q
theorem FrV.same {c : EC} {A : Nat → Option Addr} {n : Fam.S} {H H' : Hp} (g : c.G n (_root_.Rh.msk (c.av n A) H) H) (s : ∀ p o, H p = some o → H' p = some o) {u : V} {z : DV} (o : VOk c.t (c.av n A) H u H' z) : FrV c A n n H H' u z := ⟨.same s, c.Gm n _ _ H H' g (fun b o' q e => by
  obtain ⟨h1, h2⟩ := msk_some e
  rw [msk_out]
  · exact s b o' h2
  · intro w
    cases z with
    | own ds =>
      obtain ⟨a, vs, rfl, h3, _⟩ := o
      rcases w with w | w
      · exact h1 w
      · cases w
        obtain ⟨ps, e2⟩ := h3.1 _ h2
        exact q ps e2
    | dic ds =>
      obtain ⟨a, vs, rfl, h3, _⟩ := o
      rcases w with w | w
      · exact h1 w
      · cases w
        obtain ⟨ps, e2⟩ := h3.1 _ h2
        exact q ps e2
    | _ => exact h1 w) (fun b o _ _ _ h => s b o h) fun b o _ h => s b o h⟩
theorem Fr.same {c : EC} {A : Nat → Option Addr} {n : Fam.S} {H H' : Hp} (g : c.G n (_root_.Rh.msk (c.av n A) H) H) (s : ∀ p o, H p = some o → H' p = some o) : Fr c A n n H H' := ⟨.same s, c.Gm n _ _ H H' g (fun b o _ e => by
  obtain ⟨h1, h2⟩ := msk_some e
  show _root_.Rh.msk (c.av n A) H' b = some o
  rw [msk_out h1]
  exact s b o h2) (fun b o _ _ _ h => s b o h) fun b o _ h => s b o h⟩
def dBin (op : PyData → PyData → Option DV) (f g : DF) : DF := fun ρ n Q => f ρ n fun x n1 => g ρ n1 fun y n2 => ∃ a, x.dat = some a ∧ ∃ b, y.dat = some b ∧ ∃ z, op a b = some z ∧ Q z n2
def dUn (op : PyData → Option DV) (f : DF) : DF := fun ρ n Q => f ρ n fun x n1 => ∃ a, x.dat = some a ∧ ∃ z, op a = some z ∧ Q z n1
theorem bin_le {r : R2} {op : PyData → PyData → Option DV} {f g : DF} (h : R2D r op) (σ : L2.St) (H : Hp) (Q : VK) (q : tD (dBin op f g) σ H Q) : tOp r (tD f) (tD g) σ H Q := by
  obtain ⟨c, A, n, ρ, Q', E, hf, k⟩ := q
  refine ⟨c, A, n, ρ, _, E, hf, fun v x n1 H1 hg f1 o1 => ⟨c, A, n1, ρ, _, E.fr f1, hg, fun w y n2 H2 hz f2 o2 => ?_⟩⟩
  obtain ⟨a, ea, b, eb, z, ez, hq⟩ := hz
  have E2 := (E.fr f1).fr f2
  refine h c.t (c.av n2 A) H2 v w a b z Q (fun b hb => (E2.there hb).imp fun o h => h.1) ((o1.later E f1 f2).dat E ea) (o2.dat (E.fr f1) eb) ez fun u H' s o => ?_
  have f3 := FrV.same (H' := H') E2.g s o
  exact k u z n2 H' hq ((f1.trans f2).trans f3) (VOk.mono E (f1.trans f2) o)
theorem un_le {r : V → Hp → VK → Prop} {op : PyData → Option DV} {f : DF} (h : R1D r op) (σ : L2.St) (H : Hp) (Q : VK) (q : tD (dUn op f) σ H Q) : tUn r (tD f) σ H Q := by
  obtain ⟨c, A, n, ρ, Q', E, hf, k⟩ := q
  refine ⟨c, A, n, ρ, _, E, hf, fun v x n1 H1 hz f1 o1 => ?_⟩
  obtain ⟨a, ea, z, ez, hq⟩ := hz
  have E1 := E.fr f1
  refine h c.t (c.av n1 A) H1 v a z Q (fun b hb => (E1.there hb).imp fun o h => h.1) (o1.dat E ea) ez fun u H' s o => ?_
  exact k u z n1 H' hq (f1.trans (FrV.same E1.g s o)) (VOk.mono E f1 o)
theorem pdOp {X : Cx} {o : Operator} {r : R2} {op : PyData → PyData → Option DV} {a b : Expr} {f g : DF} {pos : Pos} (hd : R2D r op) (ho : OpR X (binaryOp o) r) (ha : PE X a (tD f)) (hb : PE X b (tD g)) : PE X (.BinOp a o b pos) (tD (dBin op f g)) := (pe_op ho ha hb).imp (bin_le hd)
theorem pdCmp {X : Cx} {o : CmpOp} {r : R2} {op : PyData → PyData → Option DV} {a b : Expr} {f g : DF} {pos : Pos} (hd : R2D r op) (ho : OpR X (compareOp o) r) (ha : PE X a (tD f)) (hb : PE X b (tD g)) (hm : behindInMarks o b = false) : PE X (.Compare a [o] [b] pos) (tD (dBin op f g)) := (pe_cmpR ho ha hb hm).imp (bin_le hd)
theorem pdIx {X : Cx} {r : R2} {op : PyData → PyData → Option DV} {a b : Expr} {f g : DF} {pos : Pos} (hd : R2D r op) (hr : IxR X r) (ha : PE X a (tD f)) (hb : PE X b (tD g)) (hs : PlainIx b) : PE X (.Subscript a b pos) (tD (dBin op f g)) := (pe_ix hr ha hb hs).imp (bin_le hd)
theorem pdUn {X : Cx} {o : UnaryOp} {r : V → Hp → VK → Prop} {op : PyData → Option DV} {a : Expr} {f : DF} {pos : Pos} (hd : R1D r op) (ho : UnR X (unaryOp o) r) (ha : PE X a (tD f)) : PE X (.UnaryOp o a pos) (tD (dUn op f)) := (pe_un ho ha).imp (un_le hd)
/-- tests -/
def dTest (f : DF) : DT := fun ρ n Q => f ρ n fun x n1 => ∃ b, x = .d (.bool b) ∧ Q b n1
theorem test_le {te : TE} {f : DF} (h : ∀ σ H Q, tD f σ H Q → te σ H Q) (σ : L2.St) (H : Hp) (Q : Bool → Hp → Prop) (q : tDT (dTest f) σ H Q) : te σ H fun x H1 => ∃ b, x = .bl b ∧ Q b H1 := by
  obtain ⟨c, A, n, ρ, Q', E, hf, k⟩ := q
  refine h σ H _ ⟨c, A, n, ρ, _, E, hf, fun v r n' H' ⟨b, e, hq⟩ f1 o1 => ?_⟩
  subst e
  cases o1
  exact ⟨b, rfl, k b n' H' hq f1⟩
theorem ptCmp {X : Cx} {o : CmpOp} {r : R2} {op : PyData → PyData → Option DV} {a b : Expr} {f g : DF} {pos : Pos} (hd : R2D r op) (ho : OpR X (compareOp o) r) (ha : PE X a (tD f)) (hb : PE X b (tD g)) (hm : behindInMarks o b = false) : PT X (.Compare a [o] [b] pos) (tDT (dTest (dBin op f g))) :=
  (pt_cmpR ho ha hb hm).imp fun σ H Q q => test_le (bin_le hd) σ H Q q
theorem ptVal {X : Cx} {e : Expr} {f : DF} (h : PE X e (tD f)) (he : ∀ whole, isTrue e X.env whole = (do let v ← whole; standAt e.pos; holding [v] (truthy v)) := by intro _; rfl) : PT X e (tDT (dTest f)) := (pt_val h he).imp fun σ H Q q => test_le (fun _ _ _ z => z) σ H Q q
def dNot (t : DT) : DT := fun ρ n Q => t ρ n fun b n1 => Q (!b) n1
def dAnd (t u : DT) : DT := fun ρ n Q => t ρ n fun b n1 => if b = true then u ρ n1 Q else Q false n1
def dOr (t u : DT) : DT := fun ρ n Q => t ρ n fun b n1 => if b = true then Q true n1 else u ρ n1 Q
theorem not_le {t : DT} (σ : L2.St) (H : Hp) (Q : Bool → Hp → Prop) (q : tDT (dNot t) σ H Q) : tNot (tDT t) σ H Q := by
  obtain ⟨c, A, n, ρ, Q', E, hf, k⟩ := q
  exact ⟨c, A, n, ρ, _, E, hf, fun b n' H' hq f1 => k _ n' H' hq f1⟩
theorem and_le {t u : DT} (σ : L2.St) (H : Hp) (Q : Bool → Hp → Prop) (q : tDT (dAnd t u) σ H Q) : tAnd (tDT t) (tDT u) σ H Q := by
  obtain ⟨c, A, n, ρ, Q', E, hf, k⟩ := q
  refine ⟨c, A, n, ρ, _, E, hf, fun b n' H' hq f1 => ?_⟩
  cases b with
  | true => exact ⟨c, A, n', ρ, Q', E.fr f1, hq, fun b2 n2 H2 h2 f2 => k b2 n2 H2 h2 (f1.trans f2)⟩
  | false => exact k false n' H' hq f1
theorem or_le {t u : DT} (σ : L2.St) (H : Hp) (Q : Bool → Hp → Prop) (q : tDT (dOr t u) σ H Q) : tOr (tDT t) (tDT u) σ H Q := by
  obtain ⟨c, A, n, ρ, Q', E, hf, k⟩ := q
  refine ⟨c, A, n, ρ, _, E, hf, fun b n' H' hq f1 => ?_⟩
  cases b with
  | false => exact ⟨c, A, n', ρ, Q', E.fr f1, hq, fun b2 n2 H2 h2 f2 => k b2 n2 H2 h2 (f1.trans f2)⟩
  | true => exact k true n' H' hq f1
theorem ptNot {X : Cx} {a : Expr} {t : DT} {pos : Pos} (h : PT X a (tDT t)) : PT X (.UnaryOp .Not a pos) (tDT (dNot t)) := (pt_not h).imp not_le
theorem pwAnd1 {X : Cx} {a : Expr} {t : DT} {pos : Pos} (h : PT X a (tDT t)) : PW X (.BoolOp .And [a] pos) (tDT t) := pw_and1 h
theorem pwOr1 {X : Cx} {a : Expr} {t : DT} {pos : Pos} (h : PT X a (tDT t)) : PW X (.BoolOp .Or [a] pos) (tDT t) := pw_or1 h
theorem pwAnd {X : Cx} {a b : Expr} {rest : List Expr} {t u : DT} {pos : Pos} (h : PT X a (tDT t)) (h2 : PW X (.BoolOp .And (b :: rest) pos) (tDT u)) : PW X (.BoolOp .And (a :: b :: rest) pos) (tDT (dAnd t u)) := (pw_and h h2).imp and_le
theorem pwOr {X : Cx} {a b : Expr} {rest : List Expr} {t u : DT} {pos : Pos} (h : PT X a (tDT t)) (h2 : PW X (.BoolOp .Or (b :: rest) pos) (tDT u)) : PW X (.BoolOp .Or (a :: b :: rest) pos) (tDT (dOr t u)) := (pw_or h h2).imp or_le
def dIf (t : DT) (f g : DF) : DF := fun ρ n Q => t ρ n fun b n1 => if b = true then f ρ n1 Q else g ρ n1 Q
theorem pdIf {X : Cx} {c a b : Expr} {t : DT} {f g : DF} {pos : Pos} (hc : PT X c (tDT t)) (ha : PE X a (tD f)) (hb : PE X b (tD g)) : PE X (.IfExp c a b pos) (tD (dIf t f g)) := (pe_ifExp hc ha hb).imp fun σ H Q ⟨c, A, n, ρ, Q', E, hf, k⟩ => by
  refine ⟨c, A, n, ρ, _, E, hf, fun b n' H' hq f1 => ?_⟩
  cases b with
  | true => exact ⟨c, A, n', ρ, Q', E.fr f1, hq, fun v r n2 H2 h2 f2 o2 => k v r n2 H2 h2 (f1.trans f2) (VOk.mono E f1 o2)⟩
  | false => exact ⟨c, A, n', ρ, Q', E.fr f1, hq, fun v r n2 H2 h2 f2 o2 => k v r n2 H2 h2 (f1.trans f2) (VOk.mono E f1 o2)⟩
/-- truth values joined, not -/
def dAndV (f g : DF) : DF := fun ρ n Q => f ρ n fun x n1 => ∃ b, x = .d (.bool b) ∧ if b = true then g ρ n1 Q else Q (.d (.bool false)) n1
def dOrV (f g : DF) : DF := fun ρ n Q => f ρ n fun x n1 => ∃ b, x = .d (.bool b) ∧ if b = true then Q (.d (.bool true)) n1 else g ρ n1 Q
def dNotV (f : DF) : DF := fun ρ n Q => f ρ n fun x n1 => ∃ b, x = .d (.bool b) ∧ Q (.d (.bool (!b))) n1
theorem pdAnd {X : Cx} {a b : Expr} {rest : List Expr} {f g : DF} {pos : Pos} (ha : PE X a (tD f)) (hb : PE X (.BoolOp .And (b :: rest) pos) (tD g)) : PE X (.BoolOp .And (a :: b :: rest) pos) (tD (dAndV f g)) := (pe_and ha hb).imp fun σ H Q ⟨c, A, n, ρ, Q', E, hf, k⟩ => by
  refine ⟨c, A, n, ρ, _, E, hf, fun v r n' H' ⟨b, e, hq⟩ f1 o1 => ?_⟩
  subst e
  cases o1
  refine ⟨b, rfl, ?_⟩
  cases b with
  | true => exact ⟨c, A, n', ρ, Q', E.fr f1, hq, fun v r n2 H2 h2 f2 o2 => k v r n2 H2 h2 (f1.trans f2) (VOk.mono E f1 o2)⟩
  | false => exact k _ _ n' H' hq f1 (Rp.bl false)
theorem pdOr {X : Cx} {a b : Expr} {rest : List Expr} {f g : DF} {pos : Pos} (ha : PE X a (tD f)) (hb : PE X (.BoolOp .Or (b :: rest) pos) (tD g)) : PE X (.BoolOp .Or (a :: b :: rest) pos) (tD (dOrV f g)) := (pe_or ha hb).imp fun σ H Q ⟨c, A, n, ρ, Q', E, hf, k⟩ => by
  refine ⟨c, A, n, ρ, _, E, hf, fun v r n' H' ⟨b, e, hq⟩ f1 o1 => ?_⟩
  subst e
  cases o1
  refine ⟨b, rfl, ?_⟩
  cases b with
  | false => exact ⟨c, A, n', ρ, Q', E.fr f1, hq, fun v r n2 H2 h2 f2 o2 => k v r n2 H2 h2 (f1.trans f2) (VOk.mono E f1 o2)⟩
  | true => exact k _ _ n' H' hq f1 (Rp.bl true)
theorem pdNot {X : Cx} {a : Expr} {f : DF} {pos : Pos} (ha : PE X a (tD f)) : PE X (.UnaryOp .Not a pos) (tD (dNotV f)) := (pe_not ha).imp fun σ H Q ⟨c, A, n, ρ, Q', E, hf, k⟩ => by
  refine ⟨c, A, n, ρ, _, E, hf, fun v r n' H' ⟨b, e, hq⟩ f1 o1 => ?_⟩
  subst e
  cases o1
  exact ⟨b, rfl, k _ _ n' H' hq f1 (Rp.bl _)⟩
/-- arguments -/
def dNil : DA := fun _ n Q => Q [] n
def dCons (f : DF) (g : DA) : DA := fun ρ n Q => f ρ n fun x n1 => g ρ n1 fun xs n2 => Q (x.cold :: xs) n2
theorem VsOk.mono {c : EC} {A : Nat → Option Addr} {n m k : Fam.S} {σ : L2.St} {H H1 H' : Hp} {ρ : List DV} {w : V} {r : DV} (E : EnvA c A n σ H ρ) (f : FrV c A n m H H1 w r) : ∀ {vs : List V} {rs : List DV}, VsOk c.t (c.av k A) H1 H' vs rs → VsOk c.t (c.av k A) H H' vs rs
  | _, _, .nil => .nil
  | _, _, .cons h e t => .cons (h.mono E f) e (VsOk.mono E f t)
theorem cold_cold (r : DV) : r.cold.cold = r.cold := by cases r <;> rfl
theorem paNil {X : Cx} : PA X [] (tDA dNil) := pa_nil.imp fun σ H Q ⟨c, A, n, ρ, Q', E, hf, k⟩ => k [] [] n H hf (.refl E.g) .nil
theorem paCons {X : Cx} {e : Expr} {es : List Expr} {f : DF} {g : DA} (ha : PE X e (tD f)) (hr : PA X es (tDA g)) (hs : starEach (e :: es) X.env = (false, eval e X.env) :: starEach es X.env := by rfl) : PA X (e :: es) (tDA (dCons f g)) := (pa_cons ha hr hs).imp fun σ H Q ⟨c, A, n, ρ, Q', E, hf, k⟩ => by
  refine ⟨c, A, n, ρ, _, E, hf, fun v x n1 H1 hg f1 o1 => ⟨c, A, n1, ρ, _, E.fr f1, hg, fun vs rs n2 H2 hq f2 o2 => ?_⟩⟩
  exact k (v :: vs) _ n2 H2 hq (f1.trans f2) (.cons (o1.later E f1 f2).cold (cold_cold _) (o2.mono E f1))
/-- all of them data -/
def datsOf : List DV → Option (List PyData)
  | [] => some []
  | x :: xs => match x.dat, datsOf xs with
    | some d, some ds => some (d :: ds)
    | _, _ => none
theorem VsOk.dats {c : EC} {A : Nat → Option Addr} {n k : Fam.S} {σ : L2.St} {H H0 H' : Hp} {ρ : List DV} (E : EnvA c A n σ H0 ρ) : ∀ {vs : List V} {rs : List DV} {ds : List PyData}, VsOk c.t (c.av k A) H H' vs rs → datsOf rs = some ds → RpA (msk (c.av k A) H') vs ds
  | _, _, _, .nil, e => by
    cases e
    exact .nil
  | _, _, ds, .cons (r := r) (rs := rs) h _ t, e => by
    unfold datsOf at e
    split at e
    · cases e
      exact .cons (h.dat E (by assumption)) (VsOk.dats E t (by assumption))
    · cases e
/-- displays -/
def dLst (g : DA) : DF := fun ρ n Q => g ρ n fun rs n1 => ∃ ds, datsOf rs = some ds ∧ ds.length ≤ 100000 ∧ Q (.own ds) n1
def dTup (g : DA) : DF := fun ρ n Q => g ρ n fun rs n1 => ∃ ds, datsOf rs = some ds ∧ ds.length ≤ 100000 ∧ Q (.d (.tuple ds)) n1
theorem big_line {n : Nat} (h : n ≤ 100000) : n ≤ sizeLine := Nat.le_trans h (by decide)
theorem big_lt {n : Nat} (h : n < 100000) : n < sizeLine := Nat.lt_of_lt_of_le h (by decide)
theorem own_new {c : EC} {A : Nat → Option Addr} {n : Fam.S} {σ : L2.St} {H : Hp} {ρ : List DV} (E : EnvA c A n σ H ρ) {p : Addr} {vs : List V} {ds : List PyData} (hp : H p = none) (h : RpA (msk (c.av n A) H) vs ds) : VOk c.t (c.av n A) H (.ref p) (upd H p (.lst vs)) (.own ds) := by
  refine ⟨p, vs, rfl, ⟨.of hp, E.apart (.of hp)⟩, upd_same, h.ex fun b o _ e => ?_⟩
  obtain ⟨h1, h2⟩ := msk_some e
  have ne : b ≠ p := ne_of_none h2 hp
  rw [msk_out (fun z => z.elim h1 ne), upd_ne ne]
  exact h2
theorem tup_new {c : EC} {A : Nat → Option Addr} {n : Fam.S} {σ : L2.St} {H : Hp} {ρ : List DV} (E : EnvA c A n σ H ρ) {p : Addr} {vs : List V} {ds : List PyData} (hp : H p = none) (h : RpA (msk (c.av n A) H) vs ds) : VOk c.t (c.av n A) H (.ref p) (upd H p (.tup vs)) (.d (.tuple ds)) := by
  refine .tup (by rw [msk_out (E.apart (.of hp))]; exact upd_same) (h.ex fun b o _ e => ?_)
  obtain ⟨h1, h2⟩ := msk_some e
  have ne : b ≠ p := ne_of_none h2 hp
  rw [msk_out h1, upd_ne ne]
  exact h2
theorem pdLst {X : Cx} {es : List Expr} {g : DA} {pos : Pos} (h : PA X es (tDA g)) : PE X (.List es pos) (tD (dLst g)) := (pe_lst h).imp fun σ H Q ⟨c, A, n, ρ, Q', E, hf, k⟩ => by
  refine ⟨c, A, n, ρ, _, E, hf, fun vs rs n1 H1 ⟨ds, e1, e2, hq⟩ f1 o1 => ?_⟩
  have r := o1.dats E e1
  refine ⟨big_line (by rw [r.length]; exact e2), fun p hp => ?_⟩
  have E1 := E.fr f1
  exact k _ _ n1 _ hq (f1.trans (FrV.same E1.g (fun b u h => by rw [upd_ne (ne_of_none h hp)]; exact h) (own_new E1 hp r))) (VOk.mono E f1 (own_new E1 hp r))
theorem pdTup {X : Cx} {es : List Expr} {g : DA} {pos : Pos} {x1} (h : PA X es (tDA g)) : PE X (.Tuple es x1 pos) (tD (dTup g)) := (pe_tup h).imp fun σ H Q ⟨c, A, n, ρ, Q', E, hf, k⟩ => by
  refine ⟨c, A, n, ρ, _, E, hf, fun vs rs n1 H1 ⟨ds, e1, e2, hq⟩ f1 o1 => ?_⟩
  have r := o1.dats E e1
  refine ⟨big_line (by rw [r.length]; exact e2), fun p hp => ?_⟩
  have E1 := E.fr f1
  exact k _ _ n1 _ hq (f1.trans (Fr.new E1.g hp)) (VOk.mono E f1 (tup_new E1 hp r))
/-- calls of what is known by values, all data -/
def RsD (r : List V → Hp → VK → Prop) (op : List PyData → Option DV) : Prop := ∀ (t : V) (B : Addr → Prop) (H : Hp) (vs : List V) (as : List PyData) (z : DV) (Q : VK), (∀ b, B b → ∃ o, H b = some o) → RpA (msk B H) vs as → op as = some z →
  (∀ u H', (∀ p o, H p = some o → H' p = some o) → VOk t B H u H' z → Q u H') → r vs H Q
def dB (op : List PyData → Option DV) (g : DA) : DF := fun ρ n Q => g ρ n fun rs n1 => ∃ ds, datsOf rs = some ds ∧ ∃ z, op ds = some z ∧ Q z n1
theorem cb_le {r : List V → Hp → VK → Prop} {op : List PyData → Option DV} {g : DA} (h : RsD r op) (σ : L2.St) (H : Hp) (Q : VK) (q : tD (dB op g) σ H Q) : tCB r (tDA g) σ H Q := by
  obtain ⟨c, A, n, ρ, Q', E, hf, k⟩ := q
  refine ⟨c, A, n, ρ, _, E, hf, fun vs rs n1 H1 ⟨ds, e1, z, ez, hq⟩ f1 o1 => ?_⟩
  have E1 := E.fr f1
  refine h c.t (c.av n1 A) H1 vs ds z Q (fun b hb => (E1.there hb).imp fun o h => h.1) (o1.dats E e1) ez fun u H' s o => ?_
  exact k u z n1 H' hq (f1.trans (FrV.same E1.g s o)) (VOk.mono E f1 o)
theorem pdB {X : Cx} {id : String} {x : Str} {p pos : Pos} {e : Expr} {es : List Expr} {r : List V → Hp → VK → Prop} {op : List PyData → Option DV} {g : DA} (hd : RsD r op) (hc : CallR X (.builtin id) r) (hg : Gl X x) (hm : X.mg x = none) (hv : bootBuiltins x = some (.builtin id)) (ha : PA X (e :: es) (tDA g)) (hn : x ≠ "__name__" := by decide) (hdb : (x == ("__debug__" : Str)) = false := by decide)
    (he : starEach (e :: es) X.env = (false, eval e X.env) :: starEach es X.env := by rfl) (hpl : (backTo pos (starEach es X.env)).any (·.1) = false := by rfl) : PE X (.Call (.Name x p) (e :: es) [] pos) (tD (dB op g)) := (pe_callB hc hg hm hv ha hn hdb he hpl).imp (cb_le hd)
theorem pdTy {X : Cx} {T : String} {x : Str} {p pos : Pos} {e : Expr} {es : List Expr} {r : List V → Hp → VK → Prop} {op : List PyData → Option DV} {g : DA} (hd : RsD r op) (hc : CallR X (.type T) r) (hg : Gl X x) (hm : X.mg x = none) (hv : bootBuiltins x = some (.type T)) (ha : PA X (e :: es) (tDA g)) (hn : x ≠ "__name__" := by decide) (hdb : (x == ("__debug__" : Str)) = false := by decide)
    (he : starEach (e :: es) X.env = (false, eval e X.env) :: starEach es X.env := by rfl) (hpl : (backTo pos (starEach es X.env)).any (·.1) = false := by rfl) : PE X (.Call (.Name x p) (e :: es) [] pos) (tD (dB op g)) := (pe_callTy hc hg hm hv ha hn hdb he hpl).imp (cb_le hd)
/-- calls of defs -/
abbrev DM := List DV → Fam.S → DQ → Prop
def spD (m : DM) : Sp := fun vs H Q _ => ∃ (c : EC) (n : Fam.S) (rs : List DV) (Q' : DQ), c.H0 = H ∧ c.n0 = n ∧ c.G n (msk (c.B n) H) H ∧ c.pins = [] ∧ VsOk c.t (c.B n) H H vs rs ∧ m rs n Q' ∧ ∀ v r n' H', Q' r n' → FrV c A0 n n' H H' v r → VOk c.t (c.B n') H v H' r → Q v H'
def dCall (m : DM) (g : DA) : DF := fun ρ n Q => g ρ n fun rs n1 => m rs n1 Q
/-- the caller's place as the callee's -/
def EnvA.ec {c : EC} {A : Nat → Option Addr} {n : Fam.S} {σ : L2.St} {H : Hp} {ρ : List DV} (E : EnvA c A n σ H ρ) : EC :=
  { H0 := H, n0 := n, B0 := fun b => c.B0 b ∨ ∃ i, A i = some b, t := c.t, u := c.u, pins := [], Bs := fun a h => h.elim (fun h => by
      obtain ⟨o, h1, h2⟩ := E.nB h
      exact ⟨⟨o, h1⟩, h2⟩) fun ⟨i, h⟩ => E.has i a h }
theorem EC.B_A0 (c : EC) (n : Fam.S) : c.av n A0 = c.B n := by
  funext b
  exact propext ⟨fun z => z.elim id (fun ⟨i, e⟩ => by cases e), fun z => .inl z⟩
theorem EnvA.ec_B {c : EC} {A : Nat → Option Addr} {n : Fam.S} {σ : L2.St} {H : Hp} {ρ : List DV} (E : EnvA c A n σ H ρ) (k : Fam.S) : E.ec.B k = c.av k A := by
  funext b
  refine propext ⟨fun z => ?_, fun z => ?_⟩
  · rcases z with (z | z) | z
    · exact .inl (.inl z)
    · exact .inr z
    · exact .inl (.inr z)
  · rcases z with (z | z) | z
    · exact .inl (.inl z)
    · exact .inr z
    · exact .inl (.inr z)
theorem EnvA.ec_fr {c : EC} {A : Nat → Option Addr} {n : Fam.S} {σ : L2.St} {H : Hp} {ρ : List DV} (E : EnvA c A n σ H ρ) {n' : Fam.S} {H' : Hp} {v : V} {r : DV} (f : FrV E.ec A0 n n' H H' v r) : FrV c A n n' H H' v r := ⟨f.1, by
  have g := f.2
  rw [EC.B_A0, E.ec_B] at g
  exact g⟩
theorem VsOk.now {c : EC} {A : Nat → Option Addr} {n m k : Fam.S} {σ : L2.St} {H H1 : Hp} {ρ : List DV} (E : EnvA c A n σ H ρ) : ∀ {vs : List V} {rs : List DV}, VsOk c.t (c.av k A) H H1 vs rs → (∀ r ∈ rs, (∃ d, r = .d d) ∨ r = DV.tape) → VsOk c.t (c.av k A) H1 H1 vs rs
  | _, _, .nil, _ => .nil
  | _, _, .cons (r := r) h ec t, a => by
    refine .cons ?_ ec (VsOk.now (m := m) E t fun r hr => a r (List.mem_cons_of_mem _ hr))
    rcases a _ List.mem_cons_self with ⟨d, e⟩ | e <;> rw [e] at h ⊢ <;> exact h
def plainR (rs : List DV) : Prop := ∀ r ∈ rs, (∃ d, r = .d d) ∨ r = DV.tape
theorem call_le {m : DM} {g : DA} (hpl : ∀ rs n Q, m rs n Q → plainR rs) (E0 : XK) (σ : L2.St) (H : Hp) (Q : VK) (q : tD (dCall m g) σ H Q) : tCall (spD m) [] E0 (tDA g) σ H Q := by
  obtain ⟨c, A, n, ρ, Q', E, hf, k⟩ := q
  refine ⟨c, A, n, ρ, _, E, hf, fun vs rs n1 H1 hm f1 o1 => ?_⟩
  have E1 := E.fr f1
  show spD m (vs ++ []) H1 Q E0
  rw [List.append_nil]
  refine ⟨E1.ec, n1, rs, Q', rfl, rfl, by rw [E1.ec_B]; exact E1.g, rfl, by rw [E1.ec_B]; exact o1.now (m := n1) E (hpl _ _ _ hm), hm, fun v r n' H' hq f2 o2 => ?_⟩
  rw [E1.ec_B] at o2
  exact k v r n' H' hq (f1.trans (E1.ec_fr f2)) (VOk.mono E f1 o2)
theorem pdCall {X : Cx} {CX : CXT} {k : Nat} {f : Addr} {fd : FuncData} {ps : List Str} {m : DM} {x : Str} {p pos : Pos} {e : Expr} {es : List Expr} {g : DA} {E0 : XK} (hpl : ∀ rs n Q, m rs n Q → plainR rs) (F : FnOk X.prog X.w X.K X.mg X.base CX k f fd ps (spD m)) (hr : Room k X.A) (hg : Gl X x) (hm : X.mg x = some (.ref f)) (hk : PySem.W.keepIn X.K (.ref f) = true) (hb : Binds X.K fd ps []) (hx : Passes CX X E0)
    (ha : PA X (e :: es) (tDA g)) (hdb : (x == ("__debug__" : Str)) = false := by decide) (he : starEach (e :: es) X.env = (false, eval e X.env) :: starEach es X.env := by rfl) (hpl2 : (backTo pos (starEach es X.env)).any (·.1) = false := by rfl) :
    PE X (.Call (.Name x p) (e :: es) [] pos) (tD (dCall m g)) := (pe_call F hr hg hm hk hb .nil hx ha hdb he hpl2).imp (call_le hpl E0)
end

/-! ### data readings: statements -/
section
variable [Fam] [Tabz]
section
variable {c : EC} {A : Nat → Option Addr} {n m : Fam.S} {σ : L2.St} {H H' H1 : Hp} {ρ : List DV}
theorem EnvA.put' (E : EnvA c A n σ H ρ) {w : V} {r0 : DV} (f : FrV c A n m H H' w r0) {i : Nat} {A' : Nat → Option Addr} (same : ∀ j, j ≠ i → A' j = A j) (mine : ∀ a, A' i = some a → (Fresh H a ∧ ¬ c.P m a ∧ ∃ o, H' a = some o ∧ ∀ ps, o ≠ HO.tbl ps)) {v : V} {r : DV}
    (hg : c.G m (msk (c.av m A') H') H') (h : SlOk c.t (msk (c.av m A') H') H' (A' i) (some (some v)) r) (hi : i < ρ.length) (ow : ∀ a, A' i = some a → r.isOwn = true) : EnvA c A' m (σ.set i (some v)) H' (ρ.set i r) := by
  have xt : Xt (msk (c.av n A) H) (msk (c.av m A') H') := fun b o q e => by
    obtain ⟨h1, h2⟩ := msk_some e
    have nb : ¬ c.B n b := fun z => h1 (.inl z)
    have np : ¬ c.P n b := fun z => nb (c.PB z)
    have na : ¬ c.av m A' b := by
      rintro ((z | z) | ⟨j, z⟩)
      · exact nb (.inl z)
      · exact f.1.n np q h2 z
      · by_cases e : j = i
        · subst e
          obtain ⟨ps, z2⟩ := (mine b z).1 o h2
          exact q ps z2
        · rw [same j e] at z
          exact h1 (.inr ⟨j, z⟩)
    rw [msk_out na]
    exact f.k b o np q h2
  refine ⟨E.keep.trans f.1, hg, fun j a e => ?_, fun j a e => ?_, fun j k a ej ek => ?_, fun j x e => ?_, by rw [List.length_set, List.length_set]; exact E.len, fun p hp => (E.pin p hp).ex xt, ?_, fun j a x e1 e2 => ?_⟩
  · by_cases z : j = i
    · subst z
      exact (mine a e).1.fr E.fr0
    · exact E.new j a (by rw [← same j z]; exact e)
  · by_cases z : j = i
    · subst z
      exact ⟨(mine a e).2.2, (mine a e).2.1⟩
    · exact (E.fr f).has j a (by rw [← same j z]; exact e)
  · have key : ∀ {j : Nat}, j ≠ i → A' j = some a → A' i = some a → False := fun {j} z e1 e2 => by
      rw [same j z] at e1
      obtain ⟨⟨o, h1, h2⟩, _⟩ := E.has j a e1
      obtain ⟨ps, h3⟩ := (mine a e2).1 o h1
      exact h2 ps h3
    by_cases z : j = i
    · subst z
      by_cases z2 : k = j
      · exact z2.symm
      · exact (key z2 ek ej).elim
    · by_cases z2 : k = i
      · subst z2
        exact (key z ej ek).elim
      · exact E.inj j k a (by rw [← same j z]; exact ej) (by rw [← same k z2]; exact ek)
  · by_cases z : j = i
    · subst z
      rw [List.getElem?_set_self hi] at e
      cases e
      rw [List.getElem?_set_self (by rw [← E.len]; exact hi)]
      exact h
    · rw [List.getElem?_set_ne (fun q => z q.symm)] at e ⊢
      rw [same j z]
      exact (E.slot j x e).ex xt fun a o h1 h2 h3 => f.k a o (E.has j a h1).2 h2 h3
  · obtain ⟨N, hN⟩ := E.fin
    refine ⟨max N (i + 1), fun k hk => ?_⟩
    rw [same k (by have := Nat.le_trans (Nat.le_max_right N (i + 1)) hk; omega)]
    exact hN k (Nat.le_trans (Nat.le_max_left _ _) hk)
  · by_cases z : j = i
    · subst z
      rw [List.getElem?_set_self hi] at e2
      cases e2
      exact ow a e1
    · rw [List.getElem?_set_ne (fun q => z q.symm)] at e2
      rw [same j z] at e1
      exact E.mine j a x e1 e2
theorem EnvA.put (E : EnvA c A n σ H ρ) {i : Nat} {v : V} {r : DV} (f : FrV c A n m H H' v r) (h : VOk c.t (c.av m A) H v H' r) (hi : i < ρ.length) : ∃ A', EnvA c A' m (σ.set i (some v)) H' (ρ.set i r) := by
  have drop : ∀ {b : Addr}, c.av m (fun j => if j = i then none else A j) b → c.av m A b := fun {b} z => by
    rcases z with z | ⟨j, z⟩
    · exact .inl z
    · have z' : (if j = i then none else A j) = some b := z
      split at z'
      · cases z'
      · exact .inr ⟨j, z'⟩
  have d1 : Xt (msk (c.av m A) H') (msk (c.av m (fun j => if j = i then none else A j)) H') := fun b o _ e => by
    obtain ⟨h1, h2⟩ := msk_some e
    rw [msk_out fun z => h1 (drop z)]
    exact h2
  have s1 : ∀ j, j ≠ i → (fun j => if j = i then none else A j) j = A j := fun j z => by show (if j = i then none else A j) = _; rw [if_neg z]
  have m1 : ∀ a, (fun j => if j = i then none else A j) i = some a → Fresh H a ∧ ¬ c.P m a ∧ ∃ o, H' a = some o ∧ ∀ ps, o ≠ HO.tbl ps := fun a z => by
    have z' : (if i = i then none else A i) = some a := z
    rw [if_pos rfl] at z'
    cases z'
  have s2 : ∀ p j, j ≠ i → (fun j => if j = i then some p else A j) j = A j := fun p j z => by show (if j = i then some p else A j) = _; rw [if_neg z]
  have d2 : ∀ p, Xt (msk (fun b => c.av m A b ∨ b = p) H') (msk (c.av m (fun j => if j = i then some p else A j)) H') := fun p b o _ e => by
    obtain ⟨h1, h2⟩ := msk_some e
    rw [msk_out]
    · exact h2
    · rintro (z | ⟨j, z⟩)
      · exact h1 (.inl (.inl z))
      · have z' : (if j = i then some p else A j) = some b := z
        split at z'
        · cases z'
          exact h1 (.inr rfl)
        · exact h1 (.inl (.inr ⟨j, z'⟩))
  have d3 : ∀ p, Xt (msk (fun b => c.av m A b ∨ V.ref p = .ref b) H') (msk (c.av m (fun j => if j = i then some p else A j)) H') := fun p b o q e => d2 p b o q (by
    obtain ⟨h1, h2⟩ := msk_some e
    rw [msk_out fun z => h1 (z.imp id fun z => by rw [z])]
    exact h2)
  have i2 : ∀ p : Addr, (fun j => if j = i then some p else A j) i = some p := fun p => by show (if i = i then some p else A i) = some p; rw [if_pos rfl]
  cases r with
  | un => exact h.elim
  | raw v => exact h.elim
  | tape =>
    exact ⟨_, E.put' f s1 m1 (c.Gx f.2 d1) ⟨congrArg (fun x => some (some x)) h.1, h.2⟩ hi (fun a z => by rw [if_pos rfl] at z; cases z)⟩
  | d x => exact ⟨_, E.put' f s1 m1 (c.Gx f.2 d1) ⟨v, rfl, Rp.ex h d1⟩ hi (fun a z => by rw [if_pos rfl] at z; cases z)⟩
  | own ds =>
    obtain ⟨a, vs, rfl, h2, h3, h4⟩ := h
    exact ⟨_, E.put' (A' := fun j => if j = i then some a else A j) f (s2 a) (fun b z => by rw [if_pos rfl] at z; cases z; exact ⟨h2.1, fun z => h2.2 (.inl (c.PB z)), _, h3, fun ps z => by cases z⟩) (c.Gx f.2 (d3 a)) ⟨a, vs, i2 a, rfl, h3, h4.ex (d2 a)⟩ hi (fun _ _ => rfl)⟩
  | dic kvs =>
    obtain ⟨a, vs, rfl, h2, h3, h4⟩ := h
    exact ⟨_, E.put' (A' := fun j => if j = i then some a else A j) f (s2 a) (fun b z => by rw [if_pos rfl] at z; cases z; exact ⟨h2.1, fun z => h2.2 (.inl (c.PB z)), _, h3, fun ps z => by cases z⟩) (c.Gx f.2 (d3 a)) ⟨a, vs, i2 a, rfl, h3, h4.ex (d2 a)⟩ hi (fun _ _ => rfl)⟩
/-- one's own list, one's own dict is changed -/
theorem EnvA.mut (E : EnvA c A n σ H ρ) {i : Nat} {a : Addr} {o u : HO} {r : DV} (hA : A i = some a) (ho : H a = some o) (ty : (∃ xs, o = .lst xs) ∨ ∃ kvs, o = .dK kvs) (hu : ∀ ps, u ≠ HO.tbl ps)
    (h : SlOk c.t (msk (c.av n A) H) (upd H a u) (A i) (σ[i]?) r) (ow : i < ρ.length → r.isOwn = true) : EnvA c A n σ (upd H a u) (ρ.set i r) := by
  have av : c.av n A a := .inr ⟨i, hA⟩
  have mk : msk (c.av n A) (upd H a u) = msk (c.av n A) H := by
    funext b
    by_cases z : c.av n A b
    · unfold msk
      rw [if_pos z, if_pos z]
    · rw [msk_out z, msk_out z, upd_ne (fun e => z (by rw [e]; exact av))]
  have ne : ∀ {b : Addr} {o' : HO}, H b = some o' → (∀ xs, o' ≠ HO.lst xs) → (∀ kvs, o' ≠ HO.dK kvs) → b ≠ a := fun {b o'} e l d z => by
    rw [z, ho] at e
    cases e
    rcases ty with ⟨xs, q⟩ | ⟨kvs, q⟩
    · exact l xs q
    · exact d kvs q
  refine ⟨fun b o' q e => ?_, c.Gm n _ _ H _ E.g (by rw [mk]; exact fun _ _ _ h => h) (fun b o' l d _ e => by rw [upd_ne (ne e l d)]; exact e) fun b o' p e => ?_, E.new, fun j b e => ?_, E.inj, fun j x e => ?_, by rw [List.length_set]; exact E.len, fun p hp => by rw [mk]; exact E.pin p hp, E.fin, fun j b x e1 e2 => ?_⟩
  · rw [upd_ne]
    · exact E.keep b o' q e
    · intro z
      rw [z] at e
      obtain ⟨ps, z2⟩ := E.new i a hA o' e
      exact q ps z2
  · rw [upd_ne]
    · exact e
    · intro z
      rw [z] at p
      exact E.nP hA (c.PB p)
  · by_cases z : b = a
    · subst z
      exact ⟨⟨u, upd_same, hu⟩, (E.has j b e).2⟩
    · rw [upd_ne z]
      exact E.has j b e
  · rw [mk]
    by_cases z : j = i
    · subst z
      have hj : j < ρ.length := by
        have := (List.getElem?_eq_some_iff.mp e).1
        rwa [List.length_set] at this
      rw [List.getElem?_set_self hj] at e
      cases e
      exact h
    · rw [List.getElem?_set_ne (fun q => z q.symm)] at e
      refine (E.slot j x e).ex (fun b o' _ h => h) fun b o' h1 h2 h3 => ?_
      rw [upd_ne]
      · exact h3
      · intro q
        rw [q] at h1
        exact z (E.inj j i a h1 hA)
  · by_cases z : j = i
    · subst z
      have hj : j < ρ.length := by
        have := (List.getElem?_eq_some_iff.mp e2).1
        rwa [List.length_set] at this
      rw [List.getElem?_set_self hj] at e2
      cases e2
      exact ow hj
    · rw [List.getElem?_set_ne (fun q => z q.symm)] at e2
      exact E.mine j b x e1 e2
/-- what is one's own is left as data -/
theorem EnvA.frz (E : EnvA c A n σ H ρ) (i : Nat) : EnvA c (fun j => if j = i then none else A j) n σ H (match ρ[i]? with | some (.own ds) => ρ.set i (.d (.list ds)) | some (.dic _) => ρ.set i .un | _ => ρ) := by
  have drop : ∀ {b : Addr}, c.av n (fun j => if j = i then none else A j) b → c.av n A b := fun {b} z => by
    rcases z with z | ⟨j, z⟩
    · exact .inl z
    · have z' : (if j = i then none else A j) = some b := z
      split at z'
      · cases z'
      · exact .inr ⟨j, z'⟩
  have xt : Xt (msk (c.av n A) H) (msk (c.av n (fun j => if j = i then none else A j)) H) := fun b o _ e => by
    obtain ⟨h1, h2⟩ := msk_some e
    rw [msk_out fun z => h1 (drop z)]
    exact h2
  have up : ∀ {j : Nat} {a : Addr}, (fun j => if j = i then none else A j) j = some a → j ≠ i ∧ A j = some a := fun {j a} z => by
    have z' : (if j = i then none else A j) = some a := z
    split at z'
    · cases z'
    · exact ⟨by assumption, z'⟩
  have other : ∀ (ρ' : List DV) j x, j ≠ i → ρ[j]? = some x → SlOk c.t (msk (c.av n (fun j => if j = i then none else A j)) H) H ((fun j => if j = i then none else A j) j) (σ[j]?) x := fun ρ' j x z e => by
    show SlOk _ _ _ (if j = i then none else A j) _ _
    rw [if_neg z]
    exact (E.slot j x e).ex xt fun _ _ _ _ h => h
  have base : ∀ ρ' : List DV, ρ'.length = ρ.length → (∀ j, j ≠ i → ρ'[j]? = ρ[j]?) → (∀ j x, ρ'[j]? = some x → SlOk c.t (msk (c.av n (fun j => if j = i then none else A j)) H) H ((fun j => if j = i then none else A j) j) (σ[j]?) x) → EnvA c (fun j => if j = i then none else A j) n σ H ρ' := fun ρ' hl ho hs =>
    ⟨E.keep, c.Gx E.g xt, fun j a e => E.new j a (up e).2, fun j a e => E.has j a (up e).2, fun j k a e1 e2 => E.inj j k a (up e1).2 (up e2).2, hs, by rw [hl]; exact E.len, fun p hp => (E.pin p hp).ex xt, by
      obtain ⟨N, hN⟩ := E.fin
      exact ⟨N, fun k hk => by
        show (if k = i then none else A k) = none
        split
        · rfl
        · exact hN k hk⟩, fun j a x e1 e2 => E.mine j a x (up e1).2 (by rw [← ho j (up e1).1]; exact e2)⟩
  have set : ∀ y, SlOk c.t (msk (c.av n (fun j => if j = i then none else A j)) H) H ((fun j => if j = i then none else A j) i) (σ[i]?) y → EnvA c (fun j => if j = i then none else A j) n σ H (ρ.set i y) := fun y hy => base _ (List.length_set ..) (fun j z => List.getElem?_set_ne fun q => z q.symm) fun j x e => by
    by_cases z : j = i
    · subst z
      have hj : j < ρ.length := by
        have := (List.getElem?_eq_some_iff.mp e).1
        rwa [List.length_set] at this
      rw [List.getElem?_set_self hj] at e
      cases e
      exact hy
    · rw [List.getElem?_set_ne (fun q => z q.symm)] at e
      exact other ρ j x z e
  have rest : (∀ x, ρ[i]? = some x → (∀ ds, x ≠ .own ds) ∧ ∀ kvs, x ≠ .dic kvs) → EnvA c (fun j => if j = i then none else A j) n σ H ρ := fun nx => base ρ rfl (fun _ _ => rfl) fun j x e => by
    by_cases z : j = i
    · subst z
      obtain ⟨n1, n2⟩ := nx x e
      have q := E.slot j x e
      cases x with
      | un => exact True.intro
      | tape => exact q
      | raw v => exact q
      | d y =>
        obtain ⟨v, h1, h2⟩ := q
        exact ⟨v, h1, h2.ex xt⟩
      | own ds => exact (n1 ds rfl).elim
      | dic kvs => exact (n2 kvs rfl).elim
    · exact other ρ j x z e
  split
  · rename_i ds e
    obtain ⟨a, vs, h1, h2, h3, h4⟩ := E.slot i _ e
    refine set _ ⟨.ref a, h2, .lst ?_ (h4.ex xt)⟩
    rw [msk_out]
    · exact h3
    · rintro (z | ⟨j, z⟩)
      · exact E.nP h1 z
      · exact (up z).1 (E.inj j i a (up z).2 h1)
  · exact set _ True.intro
  · rename_i n1 n2
    exact rest fun x e => ⟨fun ds z => n1 ds (by rw [e, z]), fun kvs z => n2 kvs (by rw [e, z])⟩
end
def frzV : DV → DV
  | .own ds => .d (.list ds)
  | .dic _ => .un
  | x => x
def frz : Nat → List DV → List DV
  | _, [] => []
  | 0, x :: xs => frzV x :: xs
  | i + 1, x :: xs => x :: frz i xs
theorem frz_eq : ∀ (i : Nat) (ρ : List DV), (match ρ[i]? with | some (.own ds) => ρ.set i (.d (.list ds)) | some (.dic _) => ρ.set i .un | _ => ρ) = frz i ρ
  | i, [] => by simp [frz]
  | 0, x :: xs => by cases x <;> rfl
  | i + 1, x :: xs => by
    show _ = x :: frz i xs
    rw [← frz_eq i xs, List.getElem?_cons_succ]
    split <;> rfl
structure DE where
  nx : List DV → Fam.S → Prop
  rt : DQ
  bk : List DV → Fam.S → Prop := fun _ _ => False
  ct : List DV → Fam.S → Prop := fun _ _ => False
abbrev DS := DE → List DV → Fam.S → Prop
structure Link (c : EC) (E : DE) (D : Ends) : Prop where
  nx : ∀ A n σ H ρ, E.nx ρ n → EnvA c A n σ H ρ → D.nx σ H
  rt : ∀ v r n H', E.rt r n → FrV c A0 c.n0 n c.H0 H' v r → VOk c.t (c.B n) c.H0 v H' r → D.rt v H'
  bk : ∀ A n σ H ρ, E.bk ρ n → EnvA c A n σ H ρ → D.bk σ H
  ct : ∀ A n σ H ρ, E.ct ρ n → EnvA c A n σ H ρ → D.ct σ H
def sD (F : DS) : TS := fun D σ H => ∃ (c : EC) (A : Nat → Option Addr) (n : Fam.S) (ρ : List DV) (E : DE), EnvA c A n σ H ρ ∧ F E ρ n ∧ Link c E D
def dSeq (F G : DS) : DS := fun E ρ n => F { E with nx := G E } ρ n
def dNext : DS := fun E ρ n => E.nx ρ n
theorem psCons {X : Cx} {st : Stmt} {rest : List Stmt} {F G : DS} (h : PS X st (sD F)) (h2 : PSs X rest (sD G)) : PSs X (st :: rest) (sD (dSeq F G)) := (pss_cons h h2).imp fun D σ H ⟨c, A, n, ρ, E, e, hf, L⟩ =>
  ⟨c, A, n, ρ, _, e, hf, fun A n σ H ρ h e' => ⟨c, A, n, ρ, E, e', h, L⟩, L.rt, L.bk, L.ct⟩
theorem psOne {X : Cx} {st : Stmt} {F : DS} (h : PS X st (sD F)) : PSs X [st] (sD F) := pss_one h
theorem psFrz {X : Cx} {st : List Stmt} {F : DS} (i : Nat) (h : PSs X st (sD F)) : PSs X st (sD fun E ρ n => F E (frz i ρ) n) := h.imp fun D σ H ⟨c, A, n, ρ, E, e, hf, L⟩ => ⟨c, _, n, _, E, (frz_eq i ρ) ▸ e.frz i, hf, L⟩
def dSet (i : Nat) (f : DF) : DS := fun E ρ n => f ρ n fun r n1 => i < ρ.length ∧ E.nx (ρ.set i r) n1
theorem set_le {i : Nat} {f : DF} (D : Ends) (σ : L2.St) (H : Hp) (q : sD (dSet i f) D σ H) : tAsg (tD f) (gName i) D σ H := by
  obtain ⟨c, A, n, ρ, E, e, hf, L⟩ := q
  refine ⟨c, A, n, ρ, _, e, hf, fun v r n1 H1 ⟨hi, h1⟩ f1 o1 => ?_⟩
  obtain ⟨A', e'⟩ := e.put f1 o1 hi
  exact L.nx _ _ _ _ _ h1 e'
theorem psSet {X : Cx} {i : Nat} {x : Str} {e : Expr} {f : DF} {pos' pos : Pos} (hN : X.N.Nodup) (hi : X.N[i]? = some x) (hx : Loc X.env.scope x) (he : PE X e (tD f)) (hs : swapsWith e (some (.Name x pos')) pos.line X.env = pure false := by rfl) (hf : X.fn x = true ∨ X.env.scope.names.lookup x = some .local := by first | exact .inl rfl | exact .inr rfl | assumption) :
    PS X (.Assign [.Name x pos'] e pos) (sD (dSet i f)) := (ps_set hN hi hx he hs hf).imp set_le
theorem VOk.home {c : EC} {A : Nat → Option Addr} {n k : Fam.S} {σ : L2.St} {H H' : Hp} {ρ : List DV} (E : EnvA c A n σ H ρ) {v : V} {r : DV} (h : VOk c.t (c.av k A) H v H' r) : VOk c.t (c.B k) c.H0 v H' r := by
  have xt : Xt (msk (c.av k A) H') (msk (c.B k) H') := fun b o _ e => by
    obtain ⟨h1, h2⟩ := msk_some e
    rw [msk_out fun z => h1 (.inl z)]
    exact h2
  have xt2 : ∀ a, Xt (msk (fun b => c.av k A b ∨ b = a) H') (msk (fun b => c.B k b ∨ b = a) H') := fun a b o _ e => by
    obtain ⟨h1, h2⟩ := msk_some e
    rw [msk_out fun z => h1 (z.elim (fun z => .inl (.inl z)) .inr)]
    exact h2
  cases r with
  | un => exact h
  | tape => exact h
  | raw v => exact h
  | d x => exact Rp.ex h xt
  | own ds =>
    obtain ⟨a, vs, h1, h2, h3, h4⟩ := h
    exact ⟨a, vs, h1, ⟨h2.1.fr E.fr0, fun z => h2.2 (.inl z)⟩, h3, h4.ex (xt2 a)⟩
  | dic kvs =>
    obtain ⟨a, vs, h1, h2, h3, h4⟩ := h
    exact ⟨a, vs, h1, ⟨h2.1.fr E.fr0, fun z => h2.2 (.inl z)⟩, h3, h4.ex (xt2 a)⟩
theorem hide_A0 {c : EC} {n : Fam.S} {A : Nat → Option Addr} {H : Hp} {v : V} {r : DV} : Xt (msk (hide r v (c.av n A)) H) (msk (hide r v (c.av n A0)) H) := fun b o _ e => by
  obtain ⟨h1, h2⟩ := msk_some e
  rw [msk_out]
  · exact h2
  · have up : c.av n A0 b → c.av n A b := fun z => z.elim .inl fun ⟨i, e⟩ => by cases e
    intro z
    apply h1
    cases r with
    | own _ => exact z.imp up id
    | dic _ => exact z.imp up id
    | _ => exact up z
theorem FrV.home {c : EC} {A : Nat → Option Addr} {n k : Fam.S} {σ : L2.St} {H H' : Hp} {ρ : List DV} {v : V} {r : DV} (E : EnvA c A n σ H ρ) (f : FrV c A n k H H' v r) : FrV c A0 c.n0 k c.H0 H' v r := ⟨E.keep.trans f.1, c.Gx f.2 hide_A0⟩
def dRet (f : DF) : DS := fun E ρ n => f ρ n E.rt
theorem psRet {X : Cx} {e : Expr} {f : DF} {pos : Pos} (he : PE X e (tD f)) : PS X (.Return (some e) pos) (sD (dRet f)) := (ps_ret he).imp fun D σ H ⟨c, A, n, ρ, E, e, hf, L⟩ =>
  ⟨c, A, n, ρ, _, e, hf, fun v r n1 H1 h1 f1 o1 => L.rt v r n1 H1 h1 (f1.home e) (o1.home e)⟩
def dIfS (t : DT) (F G : DS) : DS := fun E ρ n => t ρ n fun b n1 => if b = true then F E ρ n1 else G E ρ n1
theorem psIf {X : Cx} {c : Expr} {a b : List Stmt} {t : DT} {F G : DS} {pos : Pos} (hc : PT X c (tDT t)) (ha : PSs X a (sD F)) (hb : PSs X b (sD G)) : PS X (.If c a b pos) (sD (dIfS t F G)) := (ps_if hc ha hb).imp fun D σ H ⟨c, A, n, ρ, E, e, hf, L⟩ => by
  refine ⟨c, A, n, ρ, _, e, hf, fun b n1 H1 h1 f1 => ?_⟩
  cases b with
  | true => exact ⟨c, A, n1, ρ, E, e.fr f1, h1, L⟩
  | false => exact ⟨c, A, n1, ρ, E, e.fr f1, h1, L⟩
theorem psNil {X : Cx} : PSs X [] (sD dNext) := pss_nil.imp fun D σ H ⟨c, A, n, ρ, E, e, hf, L⟩ => L.nx _ _ _ _ _ hf e
theorem psBrk {X : Cx} {pos : Pos} : PS X (.Break pos) (sD fun E ρ n => E.bk ρ n) := ps_break.imp fun D σ H ⟨c, A, n, ρ, E, e, hf, L⟩ => L.bk _ _ _ _ _ hf e
theorem psCnt {X : Cx} {pos : Pos} : PS X (.Continue pos) (sD fun E ρ n => E.ct ρ n) := ps_continue.imp fun D σ H ⟨c, A, n, ρ, E, e, hf, L⟩ => L.ct _ _ _ _ _ hf e
def dExp (f : DF) : DS := fun E ρ n => f ρ n fun _ n1 => E.nx ρ n1
theorem psExp {X : Cx} {e : Expr} {f : DF} {pos : Pos} (he : PE X e (tD f)) (hs : swapsWith e none pos.line X.env = pure false := by rfl) : PS X (.Expr e pos) (sD (dExp f)) := (ps_expr he hs).imp fun D σ H ⟨c, A, n, ρ, E, e, hf, L⟩ =>
  ⟨c, A, n, ρ, _, e, hf, fun v r n1 H1 h1 f1 o1 => L.nx _ _ _ _ _ h1 (e.fr f1)⟩
def dAug (i : Nat) (op : Int → Int → Int) (f : DF) : DS := fun E ρ n => ∃ a, ρ[i]? = some (.d (.int a)) ∧ f ρ n fun r n1 => ∃ b, r = .d (.int b) ∧ E.nx (ρ.set i (.d (.int (op a b)))) n1
theorem psAug {X : Cx} {i : Nat} {x : Str} {e : Expr} {o : Operator} {op : Int → Int → Int} {f : DF} {pos' pos : Pos} (hN : X.N.Nodup) (hi : X.N[i]? = some x) (hx : Loc X.env.scope x) (ho : PIp X o (ipI op)) (he : PE X e (tD f)) (hf : X.fn x = true ∨ X.env.scope.names.lookup x = some .local := by first | exact .inl rfl | exact .inr rfl | assumption) :
    PS X (.AugAssign (.Name x pos') o e pos) (sD (dAug i op f)) := (ps_aug hN hi hx he ho hf).imp fun D σ H ⟨c, A, n, ρ, E, e, ⟨a, ha, hf⟩, L⟩ => by
  obtain ⟨v, h1, h2⟩ := e.slot i _ ha
  cases h2
  refine ⟨_, h1, c, A, n, ρ, _, e, hf, fun w r n1 H1 ⟨b, e1, h3⟩ f1 o1 => ?_⟩
  subst e1
  cases o1
  refine ⟨a, b, rfl, rfl, ?_⟩
  obtain ⟨A', e'⟩ := (e.fr f1).put (.refl f1.2) (i := i) (v := .int (op a b)) (r := .d (.int (op a b))) (Rp.int _) (List.getElem?_eq_some_iff.mp ha).1
  exact L.nx _ _ _ _ _ h3 e'
/-- xs.append(e), xs.extend(e), xs a list of one's own -/
def dApp (i : Nat) (f : DF) : DS := fun E ρ n => f ρ n fun r n1 => ∃ ds, ρ[i]? = some (.own ds) ∧ ∃ d, r.dat = some d ∧ ds.length < 100000 ∧ E.nx (ρ.set i (.own (ds ++ [d]))) n1
def dExt (i : Nat) (f : DF) : DS := fun E ρ n => f ρ n fun r n1 => ∃ ds, ρ[i]? = some (.own ds) ∧ ∃ es, r.dat = some (.list es) ∧ ds.length + es.length ≤ 100000 ∧ E.nx (ρ.set i (.own (ds ++ es))) n1
theorem set_self {ρ : List DV} {i : Nat} {x : DV} (h : ρ[i]? = some x) : ρ.set i x = ρ := by
  apply List.ext_getElem?
  intro j
  by_cases e : i = j
  · subst e
    rw [List.getElem?_set_self (List.getElem?_eq_some_iff.mp h).1, h]
  · rw [List.getElem?_set_ne e]
theorem psApp {X : Cx} {i : Nat} {e : Expr} {f : DF} {pos : Pos} (hs : swapsWith e none pos.line X.env = pure false) (h : PE X e (tBM X.K "list" rAppend (tVar i) (tCons (tD f) tNil))) : PS X (.Expr e pos) (sD (fun E ρ n => (∃ ds, ρ[i]? = some (.own ds)) ∧ dApp i f E ρ n)) := (ps_expr h hs).imp fun D σ H ⟨c, A, n, ρ, E, e, ⟨⟨ds0, h0⟩, hf⟩, L⟩ => by
  obtain ⟨a, vs, h1, h2, h3, h4⟩ := e.slot i _ h0
  refine ⟨_, h2, .inl ⟨rfl, _, SqL.of h3⟩, c, A, n, ρ, _, e, hf, fun v r n1 H1 ⟨ds, g1, d, g2, g3, g4⟩ f1 o1 => ?_⟩
  have e1 := e.fr f1
  rw [h0] at g1
  cases g1
  obtain ⟨a', vs', k1, k2, k3, k4⟩ := e1.slot i _ h0
  rw [h1] at k1
  cases k1
  have rv := o1.dat e g2
  refine ⟨a, vs', v, rfl, rfl, k3, big_lt (by rw [k4.length]; exact g3), ?_⟩
  exact L.nx _ _ _ _ _ g4 (e1.mut h1 k3 (.inl ⟨_, rfl⟩) (fun ps z => by cases z) ⟨a, _, h1, h2, upd_same, k4.app (.one rv)⟩ fun _ => rfl)
theorem psExt {X : Cx} {i : Nat} {e : Expr} {f : DF} {pos : Pos} (hs : swapsWith e none pos.line X.env = pure false) (h : PE X e (tBM X.K "list" rExtend (tVar i) (tCons (tD f) tNil))) : PS X (.Expr e pos) (sD (fun E ρ n => (∃ ds, ρ[i]? = some (.own ds)) ∧ dExt i f E ρ n)) := (ps_expr h hs).imp fun D σ H ⟨c, A, n, ρ, E, e, ⟨⟨ds0, h0⟩, hf⟩, L⟩ => by
  obtain ⟨a, vs, h1, h2, h3, h4⟩ := e.slot i _ h0
  refine ⟨_, h2, .inl ⟨rfl, _, SqL.of h3⟩, c, A, n, ρ, _, e, hf, fun v r n1 H1 ⟨ds, g1, es, g2, g3, g4⟩ f1 o1 => ?_⟩
  have e1 := e.fr f1
  rw [h0] at g1
  cases g1
  obtain ⟨a', vs', k1, k2, k3, k4⟩ := e1.slot i _ h0
  rw [h1] at k1
  cases k1
  have rv := o1.dat e g2
  cases rv with
  | lst hb rb =>
    refine ⟨a, _, vs', _, rfl, rfl, k3, (msk_some hb).2, big_line (by rw [k4.length, rb.length]; exact g3), ?_⟩
    exact L.nx _ _ _ _ _ g4 (e1.mut h1 k3 (.inl ⟨_, rfl⟩) (fun ps z => by cases z) ⟨a, _, h1, h2, upd_same, k4.app rb⟩ fun _ => rfl)
/-- a look at one's own: what is told is no list and no tuple -/
def PyData.flat0 : PyData → Bool
  | .none => true
  | .bool _ => true
  | .int _ => true
  | .str _ => true
  | _ => false
def dPeek (f : DF) : DF := fun ρ n Q => f (ρ.map DV.cold) n fun r n1 => ∃ d, r = .d d ∧ PyData.flat0 d = true ∧ Q r n1
theorem EnvA.colds {c : EC} {A : Nat → Option Addr} {n : Fam.S} {σ : L2.St} {H : Hp} {ρ : List DV} (E : EnvA c A n σ H ρ) : ∃ A', EnvA c A' n σ H ((ρ.map DV.cold).map fun x => match x with | .dic _ => .un | y => y) := by
  have av : ∀ {b : Addr}, ¬ c.B n b → ¬ c.av n (fun _ => none) b := fun nb z => by
    rcases z with z | ⟨j, z⟩
    · exact nb z
    · cases z
  have xt : Xt (msk (c.av n A) H) (msk (c.av n (fun _ => none)) H) := fun b o _ e => by
    obtain ⟨h1, h2⟩ := msk_some e
    rw [msk_out (av fun z => h1 (.inl z))]
    exact h2
  refine ⟨fun _ => none, E.keep, c.Gx E.g xt, fun i a e => (by cases e), fun i a e => (by cases e), fun i j a e => (by cases e), fun i x e => ?_, by rw [List.length_map, List.length_map]; exact E.len, fun p hp => (E.pin p hp).ex xt, ⟨0, fun _ _ => rfl⟩, fun i a x e => (by cases e)⟩
  rw [List.getElem?_map, List.getElem?_map] at e
  cases h : ρ[i]? with
  | none =>
    rw [h] at e
    cases e
  | some y =>
    rw [h] at e
    have q := E.slot i y h
    cases y with
    | un => cases e; exact True.intro
    | tape => cases e; exact q
    | raw v => cases e; exact q
    | d z =>
      cases e
      obtain ⟨v, h1, h2⟩ := q
      exact ⟨v, h1, h2.ex xt⟩
    | own ds =>
      cases e
      obtain ⟨a, vs, h1, h2, h3, h4⟩ := q
      refine ⟨.ref a, h2, .lst ?_ (h4.ex xt)⟩
      rw [msk_out (av (E.nP h1))]
      exact h3
    | dic kvs => cases e; exact True.intro
theorem flat_rp {d : PyData} {M M' : Hp} {v : V} (h : PyData.flat0 d = true) (r : Rp M v d) : Rp M' v d := by
  cases r with
  | lst _ _ => cases h
  | tup _ _ => cases h
  | hnd _ => cases h
  | non => exact .non
  | bl b => exact .bl b
  | int i => exact .int i
  | str x => exact .str x
def coldD : List DV → List DV := fun ρ => (ρ.map DV.cold).map fun x => match x with | .dic _ => .un | y => y
def dPk (f : DF) : DF := fun ρ n Q => f (coldD ρ) n fun r n1 => ∃ d, r = .d d ∧ PyData.flat0 d = true ∧ Q r n1
/-- states without data -/
class Quiet : Prop where
  q : ∀ {u t : V} {M M' H : Hp} {n : Fam.S}, Fam.Tq u t M H n → Fam.Tq u t M' H n
theorem EC.Gq [Quiet] (c : EC) {n : Fam.S} {M M' H : Hp} (g : c.G n M H) : c.G n M' H := ⟨Quiet.q g.1, g.2⟩
theorem pdPk [Quiet] {X : Cx} {e : Expr} {f : DF} (h : PE X e (tD f)) : PE X e (tD (dPk f)) := h.imp fun σ H Q ⟨c, A, n, ρ, Q', E, hf, k⟩ => by
  obtain ⟨A', E'⟩ := E.colds
  refine ⟨c, A', n, _, _, E', hf, fun v r n1 H1 ⟨d, e1, e2, h1⟩ f1 o1 => ?_⟩
  subst e1
  exact k v _ n1 H1 h1 ⟨f1.1, c.Gq f1.2⟩ (flat_rp e2 o1)
end

/-! ### data readings: targets, loops, comprehensions, defs -/
section
variable [Fam] [Tabz]
abbrev DG := PyData → List DV → Option (List DV)
/-- a target: it changes the slots of sl alone -/
def gD (sl : List Nat) (g : DG) : TG := fun v σ H Q => ∃ (c : EC) (A : Nat → Option Addr) (n : Fam.S) (ρ ρ' : List DV) (d : PyData), EnvA c A n σ H ρ ∧ Rp (msk (c.av n A) H) v d ∧ g d ρ = some ρ' ∧
  ∀ A' σ', EnvA c A' n σ' H ρ' → σ'.length = σ.length → (∀ j, j ∉ sl → σ'[j]? = σ[j]? ∧ A' j = A j) → Q σ' H
def gDs (sl : List Nat) (g : List PyData → List DV → Option (List DV)) : TGs := fun vs σ H Q => ∃ (c : EC) (A : Nat → Option Addr) (n : Fam.S) (ρ ρ' : List DV) (ds : List PyData), EnvA c A n σ H ρ ∧ RpA (msk (c.av n A) H) vs ds ∧ g ds ρ = some ρ' ∧
  ∀ A' σ', EnvA c A' n σ' H ρ' → σ'.length = σ.length → (∀ j, j ∉ sl → σ'[j]? = σ[j]? ∧ A' j = A j) → Q σ' H
theorem _root_.L2.PG.imp {X : Cx} {e : Expr} {t t' : TG} (h : PG X e t) (i : ∀ v σ H Q, t' v σ H Q → t v σ H Q) : PG X e t' := ⟨fun pins s σ H v u Q I r q => h.run pins s σ H v u Q I r (i v σ H Q q)⟩
theorem _root_.L2.PGs.imp {X : Cx} {e : List Expr} {t t' : TGs} (h : PGs X e t) (i : ∀ v σ H Q, t' v σ H Q → t v σ H Q) : PGs X e t' := ⟨fun pins s σ H v u Q I r q => h.run pins s σ H v u Q I r (i v σ H Q q)⟩
def gN (i : Nat) : DG := fun d ρ => if i < ρ.length then some (ρ.set i (.d d)) else none
theorem EnvA.putD {c : EC} {A : Nat → Option Addr} {n : Fam.S} {σ : L2.St} {H : Hp} {ρ : List DV} (E : EnvA c A n σ H ρ) {i : Nat} {v : V} {d : PyData} (r : Rp (msk (c.av n A) H) v d) (hi : i < ρ.length) : EnvA c (fun j => if j = i then none else A j) n (σ.set i (some v)) H (ρ.set i (.d d)) := by
  have xt : Xt (msk (c.av n A) H) (msk (c.av n (fun j => if j = i then none else A j)) H) := fun b o _ e => by
    obtain ⟨h1, h2⟩ := msk_some e
    rw [msk_out]
    · exact h2
    · rintro (z | ⟨j, z⟩)
      · exact h1 (.inl z)
      · have z' : (if j = i then none else A j) = some b := z
        split at z'
        · cases z'
        · exact h1 (.inr ⟨j, z'⟩)
  refine E.put' (Fr.refl E.g) (fun j z => by show (if j = i then none else A j) = _; rw [if_neg z]) (fun a z => ?_) (c.Gx E.g xt) ⟨v, rfl, r.ex xt⟩ hi (fun a z => by rw [if_pos rfl] at z; cases z)
  have z' : (if i = i then none else A i) = some a := z
  rw [if_pos rfl] at z'
  cases z'
theorem pgN {X : Cx} {i : Nat} {e : Expr} (h : PG X e (gName i)) : PG X e (gD [i] (gN i)) := h.imp fun v σ H Q ⟨c, A, n, ρ, ρ', d, E, r, hg, k⟩ => by
  unfold gN at hg
  split at hg
  · rename_i hi
    cases hg
    refine k _ _ (E.putD r hi) (List.length_set ..) fun j hj => ⟨List.getElem?_set_ne fun z => hj (by rw [z]; exact List.mem_singleton.mpr rfl), ?_⟩
    show (if j = i then none else A j) = A j
    rw [if_neg fun z => hj (by rw [z]; exact List.mem_singleton.mpr rfl)]
  · cases hg
def gNone : List PyData → List DV → Option (List DV) := fun ds ρ => match ds with | [] => some ρ | _ => none
def gMore (g : DG) (gs : List PyData → List DV → Option (List DV)) : List PyData → List DV → Option (List DV) := fun ds ρ => match ds with | [] => none | d :: ds => match g d ρ with | none => none | some ρ' => gs ds ρ'
theorem RpA.zips {M : Hp} : ∀ {vs : List V} {ds : List PyData}, RpA M vs ds → ∀ p ∈ List.zip vs ds, Rp M p.1 p.2
  | _, _, .nil => fun p hp => by cases hp
  | _, _, .cons r t => fun p hp => by
    rcases List.mem_cons.mp hp with e | e
    · rw [e]; exact r
    · exact RpA.zips t p e
theorem RpA.of_zips {M : Hp} : ∀ {vs : List V} {ds : List PyData}, vs.length = ds.length → (∀ p ∈ List.zip vs ds, Rp M p.1 p.2) → RpA M vs ds
  | [], [], _, _ => .nil
  | [], _ :: _, e, _ => by cases e
  | _ :: _, [], e, _ => by cases e
  | v :: vs, d :: ds, e, h => .cons (h (v, d) List.mem_cons_self) (RpA.of_zips (Nat.succ.inj e) fun p hp => h p (List.mem_cons_of_mem _ hp))
theorem pgNil {X : Cx} : PGs X [] (gDs [] gNone) := pgs_nil.imp fun vs σ H Q ⟨c, A, n, ρ, ρ', ds, E, r, hg, k⟩ => by
  unfold gNone at hg
  split at hg
  · cases hg
    cases r
    exact ⟨rfl, k A σ E rfl fun j _ => ⟨rfl, rfl⟩⟩
  · cases hg
theorem pgCons {X : Cx} {e : Expr} {es : List Expr} {s1 s2 : List Nat} {g : DG} {gs : List PyData → List DV → Option (List DV)} (h1 : PG X e (gD s1 g)) (h2 : PGs X es (gDs s2 gs))
    (hs : (assignEach (e :: es) X.env).map (·.2) = assign e X.env :: (assignEach es X.env).map (·.2) := by rfl) : PGs X (e :: es) (gDs (s1 ++ s2) (gMore g gs)) := (pgs_cons h1 h2 hs).imp fun vs σ H Q ⟨c, A, n, ρ, ρ', ds, E, r, hg, k⟩ => by
  unfold gMore at hg
  cases r with
  | nil => cases hg
  | @cons v vs d ds r rs =>
    have hg' : (match g d ρ with | none => none | some ρ' => gs ds ρ') = some ρ' := hg
    cases q : g d ρ with
    | none => rw [q] at hg'; cases hg'
    | some ρ1 =>
      rw [q] at hg'
      have Ep : EnvA (c.pin (List.zip vs ds)) A n σ H ρ := ⟨E.keep, E.g, E.new, E.has, E.inj, E.slot, E.len, fun p hp => by
        rcases List.mem_append.mp hp with hp | hp
        · exact rs.zips p hp
        · exact E.pin p hp, E.fin, E.mine⟩
      refine ⟨v, vs, rfl, c.pin (List.zip vs ds), A, n, ρ, ρ1, d, Ep, r, q, fun A1 σ1 E1 l1 o1 => ?_⟩
      have rs1 : RpA (msk (c.av n A1) H) vs ds := by
        exact RpA.of_zips rs.length fun p hp => E1.pin p (List.mem_append.mpr (.inl hp))
      have E1' : EnvA c A1 n σ1 H ρ1 := ⟨E1.keep, E1.g, E1.new, E1.has, E1.inj, E1.slot, E1.len, fun p hp => E1.pin p (List.mem_append.mpr (.inr hp)), E1.fin, E1.mine⟩
      refine ⟨c, A1, n, ρ1, ρ', ds, E1', rs1, hg', fun A2 σ2 E2 l2 o2 => k A2 σ2 E2 (l2.trans l1) fun j hj => ?_⟩
      have n1 : j ∉ s1 := fun z => hj (List.mem_append.mpr (.inl z))
      have n2 : j ∉ s2 := fun z => hj (List.mem_append.mpr (.inr z))
      exact ⟨(o2 j n2).1.trans (o1 j n1).1, (o2 j n2).2.trans (o1 j n1).2⟩
def gTp (n : Nat) (gs : List PyData → List DV → Option (List DV)) : DG := fun d ρ => match d with | .tuple ds => if ds.length = n then gs ds ρ else none | _ => none
theorem pgTup {X : Cx} {es : List Expr} {k : Nat} {sl : List Nat} {gs : List PyData → List DV → Option (List DV)} {pos : Pos} {n : Nat} (hc : X.calm = true) (h : PGs X es (gDs sl gs))
    (hn : (assignEach es X.env).length = n := by rfl) (hst : (assignEach es X.env).findIdx? (·.1) = none := by rfl) : PG X (.Tuple es k pos) (gD sl (gTp n gs)) := (pg_tup hc h hn hst).imp fun v σ H Q ⟨c, A, m, ρ, ρ', d, E, r, hg, k⟩ => by
  unfold gTp at hg
  split at hg
  · split at hg
    · rename_i ds hl
      cases r with
      | tup h1 h2 => exact ⟨_, _, rfl, SqT.of (msk_some h1).2, by rw [h2.length]; exact hl, c, A, m, ρ, ρ', ds, E, h2, hg, k⟩
    · cases hg
  · cases hg
/-- a, b = e -/
def dAsg (g : DG) (f : DF) : DS := fun E ρ n => f ρ n fun r n1 => ∃ d, r.dat = some d ∧ ∃ ρ', g d ρ = some ρ' ∧ E.nx ρ' n1
theorem psAsg {X : Cx} {tg e : Expr} {f : DF} {sl : List Nat} {g : DG} {pos : Pos} (he : PE X e (tD f)) (hg : PG X tg (gD sl g)) (hs : swapsWithSole [tg] e pos.line X.env = pure false := by rfl) (hw : swappedStores [tg] e X.env = pure none := by rfl) (h1 : (assignEach [tg] X.env).map (·.2) = [assign tg X.env] := by rfl) : PS X (.Assign [tg] e pos) (sD (dAsg g f)) := (ps_asg he hg hs hw h1).imp fun D σ H ⟨c, A, n, ρ, E, e, hf, L⟩ =>
  ⟨c, A, n, ρ, _, e, hf, fun v r n1 H1 ⟨d, e1, ρ', e2, h1⟩ f1 o1 => ⟨c, A, n1, ρ, ρ', d, e.fr f1, o1.dat e e1, e2, fun A' σ' E' _ _ => L.nx _ _ _ _ _ h1 E'⟩⟩
/-- what is walked: ds, one by one, by J, while what is pinned stands -/
def WD (c : EC) (l : List (V × PyData)) (J : It) (ds : List PyData) : Prop := ∀ A n σ H ρ, EnvA (c.pin l) A n σ H ρ →
  (∀ i d, ds[i]? = some d → J.go i H ∧ ∀ x H2, J.yld i H x H2 → (∀ b o, H b = some o → H2 b = some o) ∧ Rp (msk (c.av n A) H2) x d) ∧ J.stop ds.length H
abbrev DI := List DV → Fam.S → (List PyData → Fam.S → Prop) → Prop
def iD (f : DI) : TI := fun σ H R => ∃ (c : EC) (A : Nat → Option Addr) (n : Fam.S) (ρ : List DV) (Q' : List PyData → Fam.S → Prop), EnvA c A n σ H ρ ∧ f ρ n Q' ∧ ∀ ds J n' H' l, Q' ds n' → Fr c A n n' H H' → (∀ p ∈ l, Rp (msk (c.av n' A) H') p.1 p.2) → WD c l J ds → R J H'
theorem _root_.L2.PI.imp {X : Cx} {tg iter : Expr} {t t' : TI} (h : PI X tg iter t) (i : ∀ σ H R, t' σ H R → t σ H R) : PI X tg iter t' := ⟨fun pins s σ H R I q => h.run pins s σ H R I (i σ H R q)⟩
theorem EnvA.pins {c : EC} {A : Nat → Option Addr} {n : Fam.S} {σ : L2.St} {H : Hp} {ρ : List DV} (E : EnvA c A n σ H ρ) {l : List (V × PyData)} (h : ∀ p ∈ l, Rp (msk (c.av n A) H) p.1 p.2) : EnvA (c.pin l) A n σ H ρ :=
  ⟨E.keep, E.g, E.new, E.has, E.inj, E.slot, E.len, fun p hp => (List.mem_append.mp hp).elim (h p) (E.pin p), E.fin, E.mine⟩
theorem EnvA.unpin {c : EC} {A : Nat → Option Addr} {n : Fam.S} {σ : L2.St} {H : Hp} {ρ : List DV} {l : List (V × PyData)} (E : EnvA (c.pin l) A n σ H ρ) : EnvA c A n σ H ρ :=
  ⟨E.keep, E.g, E.new, E.has, E.inj, E.slot, E.len, fun p hp => E.pin p (List.mem_append.mpr (.inr hp)), E.fin, E.mine⟩
theorem EnvA.pinned {c : EC} {A : Nat → Option Addr} {n : Fam.S} {σ : L2.St} {H : Hp} {ρ : List DV} {l : List (V × PyData)} (E : EnvA (c.pin l) A n σ H ρ) {p : V × PyData} (h : p ∈ l) : Rp (msk (c.av n A) H) p.1 p.2 := E.pin p (List.mem_append.mpr (.inl h))
/-- lists, tuples -/
def dIn (f : DF) : DI := fun ρ n Q => f ρ n fun r n1 => ∃ ds, r.dat = some (.list ds) ∧ Q ds n1
def dInT (f : DF) : DI := fun ρ n Q => f ρ n fun r n1 => ∃ ds, r.dat = some (.tuple ds) ∧ Q ds n1
theorem piList {X : Cx} {tg e : Expr} {f : DF} (h : PE X e (tD f)) : PI X tg e (iD (dIn f)) := (pi_list h).imp fun σ H R ⟨c, A, n, ρ, Q', E, hf, k⟩ => by
  refine ⟨c, A, n, ρ, _, E, hf, fun v r n1 H1 ⟨ds, e1, h1⟩ f1 o1 => ?_⟩
  have rp := o1.dat E e1
  cases rp with
  | @lst a xs _ h2 h3 =>
    refine ⟨a, rfl, ⟨xs, SqL.of (msk_some h2).2⟩, k ds _ n1 H1 [(.ref a, .list ds)] h1 f1.fr (fun p hp => by rw [List.mem_singleton.mp hp]; exact .lst h2 h3) fun A n σ H ρ E' => ?_⟩
    have p := E'.pinned (p := (.ref a, .list ds)) (List.mem_singleton.mpr rfl)
    cases p with
    | @lst _ ys _ g2 g3 =>
      have hl := g3.length
      have hs := SqL.of (K := X.K) (msk_some g2).2
      refine ⟨fun i d hd => ?_, walk_list.stops H hs |> fun z => by rw [← hl]; exact z⟩
      obtain ⟨y, e2, r2⟩ := g3.get hd
      exact ⟨walk_list.goes i H (List.getElem?_eq_some_iff.mp e2).1 hs, fun x H2 yl => by
        obtain ⟨rfl, e3⟩ := walk_list.yields i H x H2 (List.getElem?_eq_some_iff.mp e2).1 hs yl
        rw [e2] at e3
        cases e3
        exact ⟨fun _ _ h => h, r2⟩⟩
theorem piTup {X : Cx} {tg e : Expr} {f : DF} (h : PE X e (tD f)) : PI X tg e (iD (dInT f)) := (pi_tup h).imp fun σ H R ⟨c, A, n, ρ, Q', E, hf, k⟩ => by
  refine ⟨c, A, n, ρ, _, E, hf, fun v r n1 H1 ⟨ds, e1, h1⟩ f1 o1 => ?_⟩
  have rp := o1.dat E e1
  cases rp with
  | @tup a xs _ h2 h3 =>
    refine ⟨a, rfl, ⟨xs, SqT.of (msk_some h2).2⟩, k ds _ n1 H1 [(.ref a, .tuple ds)] h1 f1.fr (fun p hp => by rw [List.mem_singleton.mp hp]; exact .tup h2 h3) fun A n σ H ρ E' => ?_⟩
    have p := E'.pinned (p := (.ref a, .tuple ds)) (List.mem_singleton.mpr rfl)
    cases p with
    | @tup _ ys _ g2 g3 =>
      have hl := g3.length
      have hs := SqT.of (K := X.K) (msk_some g2).2
      refine ⟨fun i d hd => ?_, walk_tup.stops H hs |> fun z => by rw [← hl]; exact z⟩
      obtain ⟨y, e2, r2⟩ := g3.get hd
      exact ⟨walk_tup.goes i H (List.getElem?_eq_some_iff.mp e2).1 hs, fun x H2 yl => by
        obtain ⟨rfl, e3⟩ := walk_tup.yields i H x H2 (List.getElem?_eq_some_iff.mp e2).1 hs yl
        rw [e2] at e3
        cases e3
        exact ⟨fun _ _ h => h, r2⟩⟩
/-- reversed(list) -/
def dRev (f : DF) : DI := fun ρ n Q => f ρ n fun r n1 => ∃ ds, r.dat = some (.list ds) ∧ Q ds.reverse n1
theorem piRev {X : Cx} {tg e : Expr} {f : DF} (h : PI X tg e (RT.iRevA X.K (tD f))) : PI X tg e (iD (dRev f)) := h.imp fun σ H R ⟨c, A, n, ρ, Q', E, hf, k⟩ => by
  refine ⟨c, A, n, ρ, _, E, hf, fun v r n1 H1 ⟨ds, e1, h1⟩ f1 o1 => ?_⟩
  have rp := o1.dat E e1
  cases rp with
  | @lst a xs _ h2 h3 =>
    refine ⟨a, xs, rfl, .inl ⟨SqL.of (msk_some h2).2, k ds.reverse _ n1 H1 [(.ref a, .list ds)] h1 f1.fr (fun p hp => by rw [List.mem_singleton.mp hp]; exact .lst h2 h3) fun A n σ H ρ E' => ?_⟩⟩
    have p := E'.pinned (p := (.ref a, .list ds)) (List.mem_singleton.mpr rfl)
    have hx := h3.length
    cases p with
    | @lst _ ys _ g2 g3 =>
      have hl := g3.length
      have hs := SqL.of (K := X.K) (msk_some g2).2
      have hxy : xs.length = ys.length := by rw [hx, hl]
      rw [hxy]
      refine ⟨fun i d hd => ?_, walk_rev.stops H hs |> fun z => by rw [List.length_reverse, ← hl]; exact z⟩
      have hi : i < ds.length := by
        have := (List.getElem?_eq_some_iff.mp hd).1
        rwa [List.length_reverse] at this
      rw [List.getElem?_reverse hi] at hd
      obtain ⟨y, e2, r2⟩ := g3.get hd
      exact ⟨walk_rev.goes i H (by rw [hl]; exact hi) hs, fun x H2 yl => by
        obtain ⟨rfl, e3⟩ := walk_rev.yields i H x H2 (by rw [hl]; exact hi) hs yl
        rw [hl, e2] at e3
        cases e3
        exact ⟨fun _ _ h => h, r2⟩⟩
/-- range(n) -/
def dRng (g : DA) : DI := fun ρ n Q => g ρ n fun rs n1 => ∃ j : Int, rs = [.d (.int j)] ∧ j < 2 ^ 62 ∧ -(2 ^ 62) ≤ j ∧ Q ((List.range j.toNat).map fun i => .int (i : Nat)) n1
theorem piRng {X : Cx} {tg e : Expr} {g : DA} (h : PI X tg e (iRng1 (tDA g))) : PI X tg e (iD (dRng g)) := h.imp fun σ H R ⟨c, A, n, ρ, Q', E, hf, k⟩ => by
  refine ⟨c, A, n, ρ, _, E, hf, fun vs rs n1 H1 ⟨j, e1, h2, h3, h1⟩ f1 o1 => ?_⟩
  subst e1
  cases o1 with
  | cons h _ t =>
    cases h
    cases t
    refine ⟨j, rfl, h3, h2, k _ _ n1 H1 [] h1 f1.fr (fun p hp => by cases hp) fun A n σ H ρ E' => ⟨fun i d hd => ?_, by rw [List.length_map, List.length_range]; exact walk_range.stops H True.intro⟩⟩
    have hi : i < j.toNat := by
      have := (List.getElem?_eq_some_iff.mp hd).1
      rwa [List.length_map, List.length_range] at this
    rw [List.getElem?_map, List.getElem?_range hi] at hd
    cases hd
    exact ⟨walk_range.goes i H hi True.intro, fun x H2 yl => by
      obtain ⟨rfl, rfl⟩ := walk_range.yields i H x H2 hi True.intro yl
      refine ⟨fun _ _ h => h, ?_⟩
      show Rp _ (.int (0 + (i : Nat))) (.int (i : Nat))
      rw [Int.zero_add]
      exact .int _⟩
theorem new_pair {c : EC} {A : Nat → Option Addr} {n : Fam.S} {σ : L2.St} {H : Hp} {ρ : List DV} (E : EnvA c A n σ H ρ) {T : Addr} {x y : V} {d e : PyData} (hT : H T = none) (hx : Rp (msk (c.av n A) H) x d) (hy : Rp (msk (c.av n A) H) y e) : Rp (msk (c.av n A) (upd H T (.tup [x, y]))) (.ref T) (.tuple [d, e]) :=
  tup_new E hT (.cons hx (.cons hy .nil))
theorem same_new {H : Hp} {T : Addr} {o : HO} (hT : H T = none) : ∀ b u, H b = some u → upd H T o b = some u := fun b u h => by
  rw [upd_ne (ne_of_none h hT)]
  exact h
/-- enumerate(list), zip(list, list) -/
def enumD (ds : List PyData) : List PyData := (List.range ds.length).map fun i => .tuple [.int (i : Nat), ds.getD i .none]
def dEnum (g : DA) : DI := fun ρ n Q => g ρ n fun rs n1 => ∃ ds, datsOf rs = some [.list ds] ∧ Q (enumD ds) n1
theorem enumD_len (ds : List PyData) : (enumD ds).length = ds.length := by unfold enumD; rw [List.length_map, List.length_range]
theorem piEnum {X : Cx} {tg e : Expr} {g : DA} (h : PI X tg e (iEnum X.K (tDA g))) : PI X tg e (iD (dEnum g)) := h.imp fun σ H R ⟨c, A, n, ρ, Q', E, hf, k⟩ => by
  refine ⟨c, A, n, ρ, _, E, hf, fun vs rs n1 H1 ⟨ds, e1, h1⟩ f1 o1 => ?_⟩
  have rp := o1.dats E e1
  cases rp with
  | cons r t =>
    cases t
    cases r with
    | @lst a xs _ h2 h3 =>
      refine ⟨a, xs, rfl, SqL.of (msk_some h2).2, k _ _ n1 H1 [(.ref a, .list ds)] h1 f1.fr (fun p hp => by rw [List.mem_singleton.mp hp]; exact .lst h2 h3) fun A n σ H ρ E' => ?_⟩
      have p := E'.pinned (p := (.ref a, .list ds)) (List.mem_singleton.mpr rfl)
      cases p with
      | @lst _ ys _ g2 g3 =>
        have hl := g3.length
        have hs := SqL.of (K := X.K) (msk_some g2).2
        refine ⟨fun i d hd => ?_, walk_enum.stops H hs |> fun z => by rw [enumD_len, ← hl]; exact z⟩
        have hi : i < ds.length := by
          have := (List.getElem?_eq_some_iff.mp hd).1
          rwa [enumD_len] at this
        unfold enumD at hd
        rw [List.getElem?_map, List.getElem?_range hi] at hd
        cases hd
        obtain ⟨y, e2, r2⟩ := g3.get (List.getElem?_eq_getElem hi)
        have hiy : i < ys.length := by rw [hl]; exact hi
        exact ⟨walk_enum.goes i H hiy hs, fun x H2 yl => by
          obtain ⟨T, u, w, rfl, hT, rfl, hu, hw⟩ := walk_enum.yields i H x H2 hiy hs yl
          cases hu
          have hw' : ys[i]? = some w := hw
          rw [e2] at hw'
          cases hw'
          refine ⟨same_new hT, ?_⟩
          show Rp _ _ (.tuple [.int (i : Nat), ds.getD i .none])
          rw [show ds.getD i .none = ds[i] by rw [List.getD_eq_getElem?_getD, List.getElem?_eq_getElem hi]; rfl]
          exact new_pair E' hT (.int _) r2⟩
def zipD (ds es : List PyData) : List PyData := (List.zip ds es).map fun p => .tuple [p.1, p.2]
def dZip (g : DA) : DI := fun ρ n Q => g ρ n fun rs n1 => ∃ ds es, datsOf rs = some [.list ds, .list es] ∧ Q (zipD ds es) n1
theorem piZip {X : Cx} {tg e : Expr} {g : DA} (h : PI X tg e (iZip X.K (tDA g))) : PI X tg e (iD (dZip g)) := h.imp fun σ H R ⟨c, A, n, ρ, Q', E, hf, k⟩ => by
  refine ⟨c, A, n, ρ, _, E, hf, fun vs rs n1 H1 ⟨ds, es, e1, h1⟩ f1 o1 => ?_⟩
  have rp := o1.dats E e1
  cases rp with
  | cons r t =>
    cases t with
    | cons q t =>
      cases t
      cases r with
      | @lst a xs _ h2 h3 =>
        cases q with
        | @lst b zs _ h4 h5 =>
          refine ⟨a, b, xs, zs, rfl, SqL.of (msk_some h2).2, SqL.of (msk_some h4).2, k _ _ n1 H1 [(.ref a, .list ds), (.ref b, .list es)] h1 f1.fr (fun p hp => by
            rcases List.mem_cons.mp hp with e | e
            · rw [e]; exact .lst h2 h3
            · rw [List.mem_singleton.mp e]; exact .lst h4 h5) fun A n σ H ρ E' => ?_⟩
          have p := E'.pinned (p := (.ref a, .list ds)) List.mem_cons_self
          have p' := E'.pinned (p := (.ref b, .list es)) (List.mem_cons_of_mem _ List.mem_cons_self)
          cases p with
          | @lst _ ys _ g2 g3 =>
            cases p' with
            | @lst _ ws _ g4 g5 =>
              have hl := g3.length
              have hl' := g5.length
              have hs : SqL X.K H a ys ∧ SqL X.K H b ws := ⟨SqL.of (K := X.K) (msk_some g2).2, SqL.of (K := X.K) (msk_some g4).2⟩
              have zl : (zipD ds es).length = min ys.length ws.length := by
                unfold zipD
                rw [List.length_map, List.length_zip, hl, hl']
              have wz := walk_zip (K := X.K) (a := a) (b := b) zl
              refine ⟨fun i d hd => ?_, wz.stops H hs⟩
              have hi : i < (zipD ds es).length := (List.getElem?_eq_some_iff.mp hd).1
              have h1 : i < ds.length := by rw [zl] at hi; omega
              have h2 : i < es.length := by rw [zl] at hi; omega
              have ed : d = .tuple [ds[i], es[i]] := by
                unfold zipD at hd
                rw [List.getElem?_map, List.getElem?_eq_getElem (by rw [List.length_zip]; omega), List.getElem_zip] at hd
                exact (Option.some.inj hd).symm
              obtain ⟨y, e2, r2⟩ := g3.get (List.getElem?_eq_getElem h1)
              obtain ⟨y', e2', r2'⟩ := g5.get (List.getElem?_eq_getElem h2)
              exact ⟨wz.goes i H hi hs, fun x H2 yl => by
                obtain ⟨T, u, w, rfl, hT, rfl, hu, hw⟩ := wz.yields i H x H2 hi hs yl
                have hu' : ys[i]? = some u := hu
                have hw' : ws[i]? = some w := hw
                rw [e2] at hu'
                rw [e2'] at hw'
                cases hu'
                cases hw'
                refine ⟨same_new hT, ?_⟩
                rw [ed]
                exact new_pair E' hT r2 r2'⟩
/-- for -/
def dFor (f : DI) (g : DG) (F : DS) : DS := fun E ρ n => f ρ n fun ds n1 => ∃ W : Nat → List DV → Fam.S → Prop, W 0 ρ n1 ∧ (∀ i d ρ n, ds[i]? = some d → W i ρ n → ∃ ρ', g d ρ = some ρ' ∧ F { E with nx := W (i + 1), ct := W (i + 1), bk := E.nx } ρ' n) ∧ ∀ ρ n, W ds.length ρ n → E.nx ρ n
theorem psFor {X : Cx} {tg iter : Expr} {body : List Stmt} {f : DI} {sl : List Nat} {g : DG} {F : DS} {pos : Pos} (hp : PassesOwn (model X.prog X.w) X.A X.env X.xe) (hc : X.calm = true) (hi : PI X tg iter (iD f)) (hg : PG X tg (gD sl g)) (hb : PSs X body (sD F))
    (hs : ∀ x, foldedSetIterable iter X.env x = pure x := by intro _; rfl) : PS X (.For tg iter body [] pos) (sD (dFor f g F)) := (ps_for hp hc hi hg hb hs).imp fun D σ H ⟨c, A, n, ρ, E, e, hf, L⟩ => by
  refine ⟨c, A, n, ρ, _, e, hf, fun ds J n1 H1 l ⟨W, w0, ws, wd⟩ f1 pins wD => ?_⟩
  refine ⟨fun i m σ H => m = ds.length - i ∧ i ≤ ds.length ∧ ∃ A n ρ, EnvA (c.pin l) A n σ H ρ ∧ W i ρ n, ⟨ds.length, by simp, Nat.zero_le _, A, n1, ρ, (e.fr f1).pins pins, w0⟩, ?_⟩
  rintro i m σ H ⟨rfl, hi, A, n, ρ, e', w⟩
  have q := wD A n σ H ρ e'
  by_cases hlt : i < ds.length
  · obtain ⟨go, yl⟩ := q.1 i ds[i] (List.getElem?_eq_getElem hlt)
    refine .inr ⟨go, fun σ H => ∃ A n ρ, EnvA (c.pin l) A n σ H ρ ∧ W (i + 1) ρ n, fun σ' H' w' => ⟨ds.length - (i + 1), by omega, rfl, hlt, w'⟩, fun x H2 y => ?_⟩
    obtain ⟨s, r⟩ := yl x H2 y
    obtain ⟨ρ', e1, h1⟩ := ws i ds[i] ρ n (List.getElem?_eq_getElem hlt) w
    have e2 : EnvA (c.pin l) A n σ H2 ρ := e'.fr (Fr.same e'.g s)
    refine ⟨c.pin l, A, n, ρ, ρ', ds[i], e2, r, e1, fun A' σ' e3 _ _ => ⟨c.pin l, A', n, ρ', _, e3, h1, ⟨?_, ?_, ?_, ?_⟩⟩⟩
    · exact fun A n σ H ρ h e4 => ⟨A, n, ρ, e4, h⟩
    · exact fun v r n H' h fr o => L.rt v r n H' h fr o
    · exact fun A n σ H ρ h e4 => L.nx A n σ H ρ h e4.unpin
    · exact fun A n σ H ρ h e4 => ⟨A, n, ρ, e4, h⟩
  · have z : i = ds.length := by omega
    subst z
    exact .inl ⟨q.2, L.nx A n σ H ρ (wd ρ n w) e'.unpin⟩
/-- while -/
def dWhile (t : DT) (F : DS) : DS := fun E ρ n => ∃ W : Nat → List DV → Fam.S → Prop, (∃ m, W m ρ n) ∧ ∀ m ρ n, W m ρ n → t ρ n fun b n1 => if b = true then ∃ N : List DV → Fam.S → Prop, (∀ ρ n, N ρ n → ∃ m', m' < m ∧ W m' ρ n) ∧ F { E with nx := N, ct := N, bk := E.nx } ρ n1 else E.nx ρ n1
theorem psWhile {X : Cx} {c : Expr} {body : List Stmt} {t : DT} {F : DS} {pos : Pos} (hp : PassesOwn (model X.prog X.w) X.A X.env X.xe) (hc : PT X c (tDT t)) (hb : PSs X body (sD F)) : PS X (.While c body [] pos) (sD (dWhile t F)) := (ps_while hp hc hb).imp fun D σ H ⟨c, A, n, ρ, E, e, ⟨W, ⟨m0, w0⟩, turn⟩, L⟩ => by
  refine ⟨fun m σ H => ∃ A n ρ, EnvA c A n σ H ρ ∧ W m ρ n, ⟨m0, A, n, ρ, e, w0⟩, ?_⟩
  rintro m σ H ⟨A, n, ρ, e, w⟩
  refine ⟨c, A, n, ρ, _, e, turn m ρ n w, fun b n1 H1 h f1 => ?_⟩
  cases b with
  | false => exact L.nx A n1 σ H1 ρ h (e.fr f1)
  | true =>
    obtain ⟨N, hN, hF⟩ := h
    refine ⟨fun σ H => ∃ A n ρ, EnvA c A n σ H ρ ∧ N ρ n, fun σ' H' ⟨A, n, ρ, e', w'⟩ => ?_, c, A, n1, ρ, _, e.fr f1, hF, ⟨?_, L.rt, ?_, ?_⟩⟩
    · obtain ⟨m', l, w2⟩ := hN ρ n w'
      exact ⟨m', l, A, n, ρ, e', w2⟩
    · exact fun A n σ H ρ h e4 => ⟨A, n, ρ, e4, h⟩
    · exact fun A n σ H ρ h e4 => L.nx A n σ H ρ h e4
    · exact fun A n σ H ρ h e4 => ⟨A, n, ρ, e4, h⟩

/-- comprehensions: the new list is kept apart -/
theorem EnvA.side {c : EC} {A : Nat → Option Addr} {n : Fam.S} {σ : L2.St} {H : Hp} {ρ : List DV} (E : EnvA c A n σ H ρ) {D : Addr} {xs : List V} (hD : H D = none) (M : Nat) : ∃ k A', ρ.length ≤ k ∧ M ≤ k ∧ A' k = some D ∧ (∀ j, j ≠ k → A' j = A j) ∧ A k = none ∧ EnvA c A' n σ (upd H D (.lst xs)) ρ := by
  obtain ⟨N, hN⟩ := E.fin
  obtain ⟨Z, kN, kR, kM⟩ : ∃ Z, N ≤ Z ∧ ρ.length ≤ Z ∧ M ≤ Z := ⟨N + ρ.length + M, by omega, by omega, by omega⟩
  have same : ∀ j, j ≠ Z → (fun j => if j = Z then some D else A j) j = A j := fun j z => by show (if j = Z then some D else A j) = _; rw [if_neg z]
  have mine : (fun j => if j = Z then some D else A j) (Z) = some D := by show (if Z = Z then some D else A _) = _; rw [if_pos rfl]
  refine ⟨Z, fun j => if j = Z then some D else A j, kR, kM, mine, same, hN _ kN, ?_⟩
  have s := same_new (o := .lst xs) hD
  have xt : Xt (msk (c.av n A) H) (msk (c.av n fun j => if j = Z then some D else A j) (upd H D (.lst xs))) := fun b o q e => by
    obtain ⟨h1, h2⟩ := msk_some e
    rw [msk_out]
    · exact s b o h2
    · rintro (z | ⟨j, z⟩)
      · exact h1 (.inl z)
      · have z' : (if j = Z then some D else A j) = some b := z
        split at z'
        · cases z'
          rw [hD] at h2
          cases h2
        · exact h1 (.inr ⟨j, z'⟩)
  refine ⟨E.keep.trans (.same s), c.Gm n _ _ H _ E.g xt (fun b o _ _ _ h => s b o h) fun b o _ h => s b o h, fun j a e => ?_, fun j a e => ?_, fun i j a e1 e2 => ?_, fun i x e => ?_, E.len, fun p hp => (E.pin p hp).ex xt, ⟨Z + 1, fun k hk => ?_⟩, fun j a x e1 e2 => ?_⟩
  · have e' : (if j = Z then some D else A j) = some a := e
    split at e'
    · cases e'
      exact (Fresh.of hD).fr E.fr0
    · exact E.new j a e'
  · have e' : (if j = Z then some D else A j) = some a := e
    split at e'
    · cases e'
      exact ⟨⟨_, upd_same, fun ps z => by cases z⟩, fun z => by
        obtain ⟨o, h1, _⟩ := c.Gs n _ H D E.g z
        rw [hD] at h1
        cases h1⟩
    · obtain ⟨⟨o, h1, h2⟩, h3⟩ := E.has j a e'
      exact ⟨⟨o, s a o h1, h2⟩, h3⟩
  · have e1' : (if i = Z then some D else A i) = some a := e1
    have e2' : (if j = Z then some D else A j) = some a := e2
    split at e1' <;> split at e2'
    · rename_i z1 z2
      rw [z1, z2]
    · cases e1'
      obtain ⟨⟨o, h1, _⟩, _⟩ := E.has j D e2'
      rw [hD] at h1
      cases h1
    · cases e2'
      obtain ⟨⟨o, h1, _⟩, _⟩ := E.has i D e1'
      rw [hD] at h1
      cases h1
    · exact E.inj i j a e1' e2'
  · have ni : i ≠ Z := by
      have := (List.getElem?_eq_some_iff.mp e).1
      omega
    show SlOk _ _ _ (if i = Z then some D else A i) _ _
    rw [if_neg ni]
    exact (E.slot i x e).ex xt fun a o _ _ h => s a o h
  · show (if k = Z then some D else A k) = none
    rw [if_neg (by omega)]
    exact hN k (by omega)
  · have nj : j ≠ Z := by
      have := (List.getElem?_eq_some_iff.mp e2).1
      omega
    have e1' : (if j = Z then some D else A j) = some a := e1
    rw [if_neg nj] at e1'
    exact E.mine j a x e1' e2
/-- the side list is no longer kept apart -/
theorem EnvA.unside {c : EC} {A A' : Nat → Option Addr} {n : Fam.S} {σ : L2.St} {H : Hp} {ρ : List DV} {k : Nat} (E : EnvA c A' n σ H ρ) (hk : ρ.length ≤ k) (same : ∀ j, j ≠ k → A' j = A j) (hA : A k = none) : EnvA c A n σ H ρ := by
  have sub : ∀ {j : Nat} {a : Addr}, A j = some a → A' j = some a := fun {j a} e => by
    rw [same j (fun z => by rw [z, hA] at e; cases e)]
    exact e
  have xt : Xt (msk (c.av n A') H) (msk (c.av n A) H) := fun b o _ e => by
    obtain ⟨h1, h2⟩ := msk_some e
    rw [msk_out]
    · exact h2
    · rintro (z | ⟨j, z⟩)
      · exact h1 (.inl z)
      · exact h1 (.inr ⟨j, sub z⟩)
  refine ⟨E.keep, c.Gx E.g xt, fun j a e => E.new j a (sub e), fun j a e => E.has j a (sub e), fun i j a e1 e2 => E.inj i j a (sub e1) (sub e2), fun i x e => ?_, E.len, fun p hp => (E.pin p hp).ex xt, ?_, fun j a x e1 e2 => E.mine j a x (sub e1) e2⟩
  · have ni : i ≠ k := by
      have := (List.getElem?_eq_some_iff.mp e).1
      omega
    rw [← same i ni]
    exact (E.slot i x e).ex xt fun _ _ _ _ h => h
  · obtain ⟨N, hN⟩ := E.fin
    refine ⟨max N (k + 1), fun j hj => ?_⟩
    have h1 := Nat.le_trans (Nat.le_max_left _ _) hj
    have h2 := Nat.le_trans (Nat.le_max_right N (k + 1)) hj
    rw [← same j (by omega)]
    exact hN j h1
def wipeD (ρ : List DV) : List Nat → List DV
  | [] => ρ
  | v :: vs => (wipeD ρ vs).set v .un
theorem wipeD_length (ρ : List DV) : ∀ vs : List Nat, (wipeD ρ vs).length = ρ.length
  | [] => rfl
  | v :: vs => by
    show ((wipeD ρ vs).set v .un).length = _
    rw [List.length_set]
    exact wipeD_length ρ vs
theorem EnvA.wipe {c : EC} {A : Nat → Option Addr} {n : Fam.S} {σ : L2.St} {H : Hp} {ρ : List DV} (E : EnvA c A n σ H ρ) : ∀ vs : List Nat, (∀ j ∈ vs, A j = none) → EnvA c A n (L2.wipe σ vs) H (wipeD ρ vs)
  | [], _ => E
  | v :: vs, hv0 => by
    have E' := EnvA.wipe E vs fun j hj => hv0 j (List.mem_cons_of_mem _ hj)
    refine ⟨E'.keep, E'.g, E'.new, E'.has, E'.inj, fun i x e => ?_, ?_, E'.pin, E'.fin, fun j a x e1 e2 => ?_⟩
    · have e' : ((wipeD ρ vs).set v .un)[i]? = some x := e
      show SlOk _ _ _ _ (((L2.wipe σ vs).set v none)[i]?) x
      by_cases z : v = i
      · subst z
        have hv : v < (wipeD ρ vs).length := by
          have := (List.getElem?_eq_some_iff.mp e').1
          rwa [List.length_set] at this
        rw [List.getElem?_set_self hv] at e'
        cases e'
        exact True.intro
      · rw [List.getElem?_set_ne z] at e' ⊢
        exact E'.slot i x e'
    · show ((wipeD ρ vs).set v .un).length = ((L2.wipe σ vs).set v none).length
      rw [List.length_set, List.length_set]
      exact E'.len
    · have e' : ((wipeD ρ vs).set v .un)[j]? = some x := e2
      by_cases z : v = j
      · subst z
        rw [hv0 v List.mem_cons_self] at e1
        cases e1
      · rw [List.getElem?_set_ne z] at e'
        exact E'.mine j a x e1 e'
theorem wipe_eq {σ σ' : L2.St} {vs : List Nat} (hl : σ'.length = (wipe σ vs).length) (h : ∀ j, j ∉ vs → σ'[j]? = (wipe σ vs)[j]?) : wipe σ' vs = wipe σ vs := by
  apply List.ext_getElem?
  intro j
  by_cases hj : j ∈ vs
  · have none_at : ∀ (τ : L2.St) (vs : List Nat), j ∈ vs → j < τ.length → (wipe τ vs)[j]? = some none := by
      intro τ vs
      induction vs with
      | nil => intro h; cases h
      | cons v vs ih =>
        intro hm hl
        show ((wipe τ vs).set v none)[j]? = some none
        by_cases z : v = j
        · subst z
          exact List.getElem?_set_self (by rw [wipe_length]; exact hl)
        · rw [List.getElem?_set_ne z]
          rcases List.mem_cons.mp hm with e | e
          · exact (z e.symm).elim
          · exact ih e hl
    rw [wipe_length] at hl
    by_cases q : j < σ.length
    · rw [none_at σ' vs hj (by rw [hl]; exact q), none_at σ vs hj q]
    · rw [List.getElem?_eq_none (by rw [wipe_length, hl]; omega), List.getElem?_eq_none (by rw [wipe_length]; omega)]
  · rw [wipe_out hj]
    exact h j hj
def dYes : DT := fun _ n Q => Q true n
abbrev LcOk (g : DG) (t : DT) (h : DF) (vs : List Nat) (ρ : List DV) (Q : DQ) (ds : List PyData) (n1 : Fam.S) : Prop := (vs.all fun j => match ρ[j]? with | some x => !x.isOwn | none => false) = true ∧ ds.length ≤ 100000 ∧ ∃ W : Nat → List PyData → Fam.S → Prop, W 0 [] n1 ∧
  (∀ i d acc n, ds[i]? = some d → W i acc n → ∃ ρ', g d (wipeD ρ vs) = some ρ' ∧ t ρ' n fun b n2 => if b = true then h ρ' n2 fun r n3 => ∃ y, r.dat = some y ∧ W (i + 1) (acc ++ [y]) n3 else W (i + 1) acc n2) ∧ ∀ acc n, W ds.length acc n → Q (.own acc) n
def dLc (f : DI) (g : DG) (t : DT) (h : DF) (vs : List Nat) : DF := fun ρ n Q => f ρ n fun ds n1 => LcOk g t h vs ρ Q ds n1
/-- [h x for x in xs] -/
theorem lcMap {g : DG} {h : DF} {vs : List Nat} {ρ : List DV} {n : Fam.S} {Q : DQ} {ds : List PyData} (out : List PyData) (own : (vs.all fun j => match ρ[j]? with | some x => !x.isOwn | none => false) = true) (big : ds.length ≤ 100000) (hl : out.length = ds.length)
    (step : ∀ (i : Nat) (d y : PyData), ds[i]? = some d → out[i]? = some y → ∃ ρ', g d (wipeD ρ vs) = some ρ' ∧ ∀ R : DQ, (∀ r, r.dat = some y → R r n) → h ρ' n R) (q : Q (.own out) n) : LcOk g (fun _ n Q => Q true n) h vs ρ Q ds n := by
  refine ⟨own, big, fun i acc m => m = n ∧ acc = out.take i, ⟨rfl, rfl⟩, ?_, ?_⟩
  · rintro i d acc m hd ⟨rfl, rfl⟩
    have hi : i < out.length := by rw [hl]; exact (List.getElem?_eq_some_iff.mp hd).1
    obtain ⟨y, ey⟩ : ∃ y, out[i]? = some y := ⟨_, List.getElem?_eq_getElem hi⟩
    obtain ⟨ρ', e1, h1⟩ := step i d y hd ey
    refine ⟨ρ', e1, ?_⟩
    show (if true = true then _ else _)
    rw [if_pos rfl]
    exact h1 _ fun r er => ⟨y, er, rfl, by rw [List.take_succ, ey]; rfl⟩
  · rintro acc m ⟨rfl, rfl⟩
    rw [← hl, List.take_length]
    exact q
/-- [x for x in xs if p x] -/
theorem lcFil {g : DG} {t : DT} {h : DF} {vs : List Nat} {ρ : List DV} {n : Fam.S} {Q : DQ} {ds : List PyData} (p : PyData → Bool) (own : (vs.all fun j => match ρ[j]? with | some x => !x.isOwn | none => false) = true) (big : ds.length ≤ 100000)
    (step : ∀ d, d ∈ ds → ∃ ρ', g d (wipeD ρ vs) = some ρ' ∧ (∀ R : Bool → Fam.S → Prop, R (p d) n → t ρ' n R) ∧ ∀ R : DQ, R (.d d) n → h ρ' n R) (q : Q (.own (ds.filter p)) n) : LcOk g t h vs ρ Q ds n := by
  refine ⟨own, big, fun i acc m => m = n ∧ acc = (ds.take i).filter p, ⟨rfl, rfl⟩, ?_, ?_⟩
  · rintro i d acc m hd ⟨rfl, rfl⟩
    obtain ⟨ρ', e1, h1, h2⟩ := step d (List.mem_of_getElem? hd)
    refine ⟨ρ', e1, h1 _ ?_⟩
    have et : (ds.take (i + 1)).filter p = (ds.take i).filter p ++ if p d = true then [d] else [] := by
      rw [List.take_succ, hd, List.filter_append]
      congr 1
      cases e : p d with
      | true => simp [e]
      | false => simp [e]
    cases e : p d with
    | true =>
      rw [if_pos rfl]
      refine h2 _ ⟨d, rfl, rfl, ?_⟩
      rw [et, e, if_pos rfl]
    | false =>
      rw [if_neg Bool.false_ne_true]
      refine ⟨rfl, ?_⟩
      rw [et, e, if_neg Bool.false_ne_true, List.append_nil]
  · rintro acc m ⟨rfl, rfl⟩
    rw [List.take_length] at *
    exact q
theorem bound_of (vs : List Nat) : ∃ M, ∀ j ∈ vs, j < M := by
  induction vs with
  | nil => exact ⟨0, fun j h => by cases h⟩
  | cons v vs ih =>
    obtain ⟨M, h⟩ := ih
    refine ⟨M + v + 1, fun j hj => ?_⟩
    rcases List.mem_cons.mp hj with e | e
    · omega
    · have := h j e
      omega
theorem lc_le {f : DI} {g : DG} {sl vs : List Nat} {t : DT} {tt : TT} {h : DF} (hsl : ∀ j ∈ sl, j ∈ vs) (ht : ∀ σ H Q, tDT t σ H Q → tt σ H Q) (σ : L2.St) (H : Hp) (Q : VK) (q : tD (dLc f g t h vs) σ H Q) : tLc (iD f) (gD sl g) tt (tD h) vs σ H Q := by
  obtain ⟨c, A, n, ρ, Q', E, hf, k⟩ := q
  refine ⟨c, A, n, ρ, _, E, hf, fun ds J n1 H1 l ⟨nown, big, W, w0, ws, wd⟩ f1 pins wD D hD => ?_⟩
  have E1 := E.fr f1
  obtain ⟨M, hM⟩ := bound_of vs
  obtain ⟨kD, A1, hk, hkM, hA1, sameA, hAk, ES⟩ := E1.side (xs := []) hD M
  have vA1 : ∀ j ∈ vs, A1 j = none := fun j hj => by
    have hb := List.all_eq_true.mp nown j hj
    have nk : j ≠ kD := by
      have := hM j hj
      omega
    cases e : A1 j with
    | none => rfl
    | some a =>
      cases er : ρ[j]? with
      | none =>
        rw [er] at hb
        cases hb
      | some x =>
        have := ES.mine j a x e er
        rw [er] at hb
        have hb' : (!x.isOwn) = true := hb
        rw [this] at hb'
        cases hb'
  have Ep : EnvA (c.pin l) A1 n1 σ (upd H1 D (.lst [])) ρ := ES.pins fun p hp => (pins p hp).ex fun b o q e => by
    obtain ⟨h1, h2⟩ := msk_some e
    have nb : b ≠ D := fun z => by rw [z, hD] at h2; cases h2
    rw [msk_out]
    · rw [upd_ne nb]; exact h2
    · rintro (z | ⟨j, z⟩)
      · exact h1 (.inl z)
      · by_cases e : j = kD
        · rw [e, hA1] at z
          exact nb (Option.some.inj z).symm
        · rw [sameA j e] at z
          exact h1 (.inr ⟨j, z⟩)
  refine ⟨fun i m H2 => m = ds.length - i ∧ i ≤ ds.length ∧ ∃ n vals acc, EnvA (c.pin l) A1 n σ H2 ρ ∧ H2 D = some (.lst vals) ∧ RpA (msk (c.av n A1) H2) vals acc ∧ acc.length ≤ i ∧ W i acc n ∧ Stay (c.P n1) (c.P n) H1 H2, ⟨ds.length, by simp, Nat.zero_le _, n1, [], [], Ep, upd_same, .nil, Nat.le_refl _, w0, .same fun b o e => by rw [upd_ne (ne_of_none e hD)]; exact e⟩, ?_⟩
  rintro i m H2 ⟨rfl, hi, n2, vals, acc, e2, hv, rv, la, w, kp⟩
  have qD := wD A1 n2 σ H2 ρ e2
  have nD : ¬ c.P n2 D := fun p => (e2.nP hA1) (c.PB p)
  have avD : ∀ n, c.av n A1 D := fun n => .inr ⟨kD, hA1⟩
  by_cases hlt : i < ds.length
  · obtain ⟨go, yl⟩ := qD.1 i ds[i] (List.getElem?_eq_getElem hlt)
    refine .inr ⟨go, fun H2 => ∃ n vals acc, EnvA (c.pin l) A1 n σ H2 ρ ∧ H2 D = some (.lst vals) ∧ RpA (msk (c.av n A1) H2) vals acc ∧ acc.length ≤ i + 1 ∧ W (i + 1) acc n ∧ Stay (c.P n1) (c.P n) H1 H2, fun H' w' => ⟨ds.length - (i + 1), by omega, rfl, hlt, w'⟩, fun x H3 y => ?_⟩
    obtain ⟨s3, r3⟩ := yl x H3 y
    obtain ⟨ρ', eg, et⟩ := ws i ds[i] acc n2 (List.getElem?_eq_getElem hlt) w
    have f3 : Fr (c.pin l) A1 n2 n2 H2 H3 := Fr.same e2.g s3
    have e3 : EnvA (c.pin l) A1 n2 (L2.wipe σ vs) H3 (wipeD ρ vs) := (e2.fr f3).wipe vs vA1
    refine ⟨c.pin l, A1, n2, _, ρ', ds[i], e3, r3, eg, fun A' σ' e4 l4 o4 => ⟨wipe_eq l4 fun j hj => (o4 j fun z => hj (hsl j z)).1, ?_⟩⟩
    have back : ∀ {n5 : Fam.S} {H5 : Hp} {v : V} {r : DV}, FrV (c.pin l) A' n2 n5 H3 H5 v r → EnvA (c.pin l) A1 n5 σ H5 ρ ∧ H5 D = some (.lst vals) ∧ RpA (msk (c.av n5 A1) H5) vals acc ∧ Stay (c.P n1) (c.P n5) H1 H5 := fun {n5 H5 v r} f5 => by
      have g5 : Fr (c.pin l) A1 n2 n5 H3 H5 := ⟨f5.1, (c.pin l).Gmk f5.g fun i a e => ⟨i, by rw [(o4 i fun z => by rw [vA1 i (hsl i z)] at e; cases e).2]; exact e⟩⟩
      have f25 := f3.trans g5
      exact ⟨e2.fr f25, f25.k D _ nD (fun ps z => by cases z) hv, rv.ex f25.msk, kp.trans f25.1⟩
    refine ht σ' H3 _ ⟨c.pin l, A', n2, ρ', _, e4, et, fun b n4 H4 hb f4 => ?_⟩
    cases b with
    | false =>
      obtain ⟨b1, b2, b3, b4⟩ := back f4
      exact ⟨n4, vals, acc, b1, b2, b3, Nat.le_succ_of_le la, hb, b4⟩
    | true =>
      refine ⟨c.pin l, A', n4, ρ', _, e4.fr f4, hb, fun v r n5 H5 ⟨y, ey, hw⟩ f5 o5 => ?_⟩
      obtain ⟨b1, b2, b3, b4⟩ := back (f4.trans f5)
      have ry := o5.dat (e4.fr f4) ey
      have ll : vals.length < sizeLine := big_lt (by rw [rv.length]; omega)
      refine ⟨vals, b2, ll, ?_⟩
      have ry1 : Rp (msk (c.av n5 A1) H5) v y := ry.ex fun b o _ e => by
        obtain ⟨h1, h2⟩ := msk_some e
        rw [msk_out]
        · exact h2
        · rintro (z | ⟨j, z⟩)
          · exact h1 (.inl z)
          · by_cases hj : j ∈ sl
            · rw [vA1 j (hsl j hj)] at z
              cases z
            · exact h1 (.inr ⟨j, by rw [(o4 j hj).2]; exact z⟩)
      have mk : msk (c.av n5 A1) (upd H5 D (.lst (vals ++ [v]))) = msk (c.av n5 A1) H5 := by
        funext b
        by_cases z : c.av n5 A1 b
        · unfold msk
          rw [if_pos z, if_pos z]
        · rw [msk_out z, msk_out z, upd_ne (fun e => z (by rw [e]; exact avD n5))]
      have m1 := b1.mut (r := .un) (u := .lst (vals ++ [v])) hA1 b2 (.inl ⟨_, rfl⟩) (fun ps z => by cases z) True.intro (fun z => by omega)
      rw [List.set_eq_of_length_le hk] at m1
      refine ⟨n5, vals ++ [v], acc ++ [y], m1, upd_same, by rw [mk]; exact b3.app (.one ry1), by rw [List.length_append]; show acc.length + 1 ≤ _; omega, hw, fun b o q e => ?_⟩
      rw [upd_ne (fun z => by rw [z, hD] at e; cases e)]
      exact b4 b o q e
  · have z : i = ds.length := by omega
    subst z
    refine .inl ⟨qD.2, ?_⟩
    have up : ∀ {b : Addr}, c.av n2 A b → c.av n2 A1 b := fun {b} z => z.imp id fun ⟨j, e⟩ => ⟨j, by rw [sameA j fun z => by rw [z, hAk] at e; cases e]; exact e⟩
    have fE : FrV c A n1 n2 H1 H2 (.ref D) (.own acc) := ⟨kp, c.Gx e2.g fun b o _ e => by
      obtain ⟨h1, h2⟩ := msk_some e
      rw [msk_out]
      · exact h2
      · rintro (z | z)
        · exact h1 (up z)
        · cases z
          exact h1 (avD n2)⟩
    have nd : ¬ c.av n2 A D := by
      rintro (z | ⟨j, z⟩)
      · exact e2.nP hA1 z
      · have nj : j ≠ kD := fun e => by
          rw [e, hAk] at z
          cases z
        exact nj (e2.inj j kD D (by rw [sameA j nj]; exact z) hA1)
    refine k _ _ n2 H2 (wd acc n2 w) (f1.trans fE) ⟨D, vals, rfl, ⟨(Fresh.of hD).fr f1, nd⟩, hv, rv.ex fun b o _ e => ?_⟩
    obtain ⟨h1, h2⟩ := msk_some e
    rw [msk_out]
    · exact h2
    · rintro ((z | ⟨j, z⟩) | z)
      · exact h1 (.inl z)
      · by_cases e : j = kD
        · rw [e, hAk] at z
          cases z
        · exact h1 (.inr ⟨j, by rw [sameA j e]; exact z⟩)
      · exact h1 (by rw [z]; exact avD n2)
end

/-! ### data readings: defs, operators, built-ins -/
section
variable [Fam] [Tabz]
theorem VsOk.get {t : V} {B : Addr → Prop} {H H' : Hp} : ∀ {vs : List V} {rs : List DV} {i : Nat} {r : DV}, VsOk t B H H' vs rs → rs[i]? = some r → ∃ v, vs[i]? = some v ∧ VOk t B H v H' r ∧ r.cold = r
  | _, _, _, _, .nil, e => by simp at e
  | _, _, 0, _, .cons h ec _, e => by
    simp at e
    subst e
    exact ⟨_, rfl, h, ec⟩
  | _, _, i + 1, r, .cons _ _ t, e => by
    obtain ⟨v, h1, h2⟩ := VsOk.get (i := i) (r := r) t (by simpa using e)
    exact ⟨v, by simpa using h1, h2⟩
theorem VsOk.length {t : V} {B : Addr → Prop} {H H' : Hp} : ∀ {vs : List V} {rs : List DV}, VsOk t B H H' vs rs → vs.length = rs.length
  | _, _, .nil => rfl
  | _, _, .cons _ _ t => by
    show _ + 1 = _ + 1
    rw [VsOk.length t]
section
variable {P : Program} {w : World} {K : PySem.W.Frag} {mg : Str → Option Value} {base : Heap}
theorem okD {x qual : Str} {st : Stmt} {f : Addr} {fd : FuncData} {N ps : List Str} {k : Nat} {F : DS} {m : DM} (Fn : Fun K x qual st f fd) (S : FnScope N ps (defScope st)) (len : ∀ rs n Q, m rs n Q → plainR rs ∧ rs.length = ps.length)
    (body : ∀ (cdv : Value) (A : Around) (outer : List Env) (s : Shared) (H : Hp) (E : XK), Room k (A.deeper (PyProof.Rows.envOfC qual (defScope st) s.heap.objs.size f cdv)) → PSs (cxOf CX0 P w K mg base N qual (defScope st) f cdv A outer s H E).nox (defBody st) (sD F))
    (data : ∀ rs n Q, m rs n Q → F { nx := fun _ n => Q (.d .none) n, rt := Q } (rs ++ List.replicate (N.length - rs.length) .un) n) : FnOk P w K mg base CX0 (k + 1) f fd ps (spD m) := by
  refine Fn.ok S (fun vs H Q E ⟨c, n, rs, Q', h0, hn, g, pn, ok, hm, _⟩ => ?_) (fun cdv A outer s H vs Q E hr ⟨c, n, rs, Q', h0, hn, g, pn, ok, hm, kk⟩ => ⟨_, body cdv A outer s H E hr, c, A0, n, _, { nx := fun _ n => Q' (.d .none) n, rt := Q' }, ?_, data rs n Q' hm, ?_⟩)
  · rw [ok.length]
    exact (len _ _ _ hm).2
  · subst h0
    subst hn
    have xt : Xt (msk (c.B c.n0) c.H0) (msk (c.av c.n0 A0) c.H0) := by
      rw [EC.B_A0]
      exact fun _ _ _ h => h
    refine ⟨.refl, c.Gx g xt, fun i a e => (by cases e), fun i a e => (by cases e), fun i j a e => (by cases e), fun i y e => ?_, ?_, fun p hp => (by rw [pn] at hp; cases hp), ⟨0, fun _ _ => rfl⟩, fun i a y e => (by cases e)⟩
    · by_cases hi : i < rs.length
      · rw [List.getElem?_append_left hi] at e
        obtain ⟨v, h1, h2, h3⟩ := ok.get e
        have hs : (L2.start N vs)[i]? = some (some v) := by
          unfold L2.start
          rw [List.getElem?_append_left (by rw [List.length_map, ok.length]; exact hi), List.getElem?_map, h1]
          rfl
        rw [hs]
        cases y with
        | un => exact h2.elim
        | raw v => exact h2.elim
        | tape => 
          refine ⟨?_, h2.2⟩
          rw [show v = c.t from h2.1]
        | d z => exact ⟨v, rfl, Rp.ex h2 xt⟩
        | own ds => cases h3
        | dic kvs => 
          rcases (len _ _ _ hm).1 _ (List.mem_of_getElem? e) with ⟨d, q⟩ | q <;> cases q
      · rw [List.getElem?_append_right (by omega), List.getElem?_replicate] at e
        split at e
        · cases e
          exact True.intro
        · cases e
    · unfold L2.start
      rw [List.length_append, List.length_append, List.length_map, List.length_replicate, List.length_replicate, ok.length]
  · subst h0
    subst hn
    refine ⟨fun A n σ H' ρ h e => ?_, fun v r n H' h fr o => kk v r n H' h fr o, fun A n σ H ρ h e => h.elim, fun A n σ H ρ h e => h.elim⟩
    exact kk .non _ n H' h e.fr0 Rp.non
end
theorem yes_le (σ : L2.St) (H : Hp) (Q : Bool → Hp → Prop) (q : tDT dYes σ H Q) : tYes σ H Q := by
  obtain ⟨c, A, n, ρ, Q', E, hf, k⟩ := q
  exact k true n H hf (.refl E.g)
theorem set_le2 {i : Nat} {f : DF} {te : TE} (h : ∀ σ H Q, tD f σ H Q → te σ H Q) (D : Ends) (σ : L2.St) (H : Hp) (q : sD (dSet i f) D σ H) : tAsg te (gName i) D σ H := by
  obtain ⟨c, A, n, ρ, E, e, hf, L⟩ := q
  refine h _ _ _ ⟨c, A, n, ρ, _, e, hf, fun v r n1 H1 ⟨hi, h1⟩ f1 o1 => ?_⟩
  obtain ⟨A', e'⟩ := e.put f1 o1 hi
  exact L.nx _ _ _ _ _ h1 e'
/-- ints -/
def opI (g : Int → Int → PyData) : PyData → PyData → Option DV
  | .int a, .int b => some (.d (g a b))
  | _, _ => none
theorem r2I {g : Int → Int → V} {g' : Int → Int → PyData} (h : ∀ i j, datC (g i j) = some (g' i j)) : R2D (rI0 g) (opI g') := by
  intro t B H v w a b z Q hB ra rb e k
  cases ra <;> cases rb <;> cases e
  exact ⟨_, _, rfl, rfl, k _ H (fun _ _ h => h) (datC_rp (h _ _))⟩
def opIc (C : Int → Int → Bool) (g : Int → Int → PyData) : PyData → PyData → Option DV
  | .int a, .int b => if C a b = true then some (.d (g a b)) else none
  | _, _ => none
theorem r2Ic {C : Int → Int → Prop} {Cb : Int → Int → Bool} (hC : ∀ i j, Cb i j = true → C i j) {g : Int → Int → V} {g' : Int → Int → PyData} (h : ∀ i j, datC (g i j) = some (g' i j)) : R2D (rI C g) (opIc Cb g') := by
  intro t B H v w a b z Q hB ra rb e k
  cases ra <;> cases rb <;> simp only [opIc, reduceCtorEq] at e
  split at e
  · cases e
    exact ⟨_, _, rfl, rfl, hC _ _ (by assumption), k _ H (fun _ _ h => h) (datC_rp (h _ _))⟩
  · cases e
abbrev opAdd := opI fun i j => .int (i + j)
abbrev opSub := opI fun i j => .int (i - j)
abbrev opLt := opI fun i j => .bool (decide (i < j))
abbrev opLe := opI fun i j => .bool (decide (i ≤ j))
abbrev opGt := opI fun i j => .bool (decide (j < i))
abbrev opGe := opI fun i j => .bool (decide (j ≤ i))
theorem r2Add : R2D (rI0 fun i j => .int (i + j)) opAdd := r2I fun _ _ => rfl
theorem r2Sub : R2D (rI0 fun i j => .int (i - j)) opSub := r2I fun _ _ => rfl
theorem r2Lt : R2D (rI0 fun i j => .bl (decide (i < j))) opLt := r2I fun _ _ => rfl
theorem r2Le : R2D (rI0 fun i j => .bl (decide (i ≤ j))) opLe := r2I fun _ _ => rfl
theorem r2Gt : R2D (rI0 fun i j => .bl (decide (j < i))) opGt := r2I fun _ _ => rfl
theorem r2Ge : R2D (rI0 fun i j => .bl (decide (j ≤ i))) opGe := r2I fun _ _ => rfl
instance (i j : Int) : Decidable (CMulW i j) := inferInstanceAs (Decidable (_ < _))
instance (i j : Int) : Decidable (CDivW i j) := inferInstanceAs (Decidable (_ ∧ _))
abbrev opMul := opIc (fun i j => decide (CMulW i j)) fun i j => .int (i * j)
theorem r2Mul : R2D (rI CMulW fun i j => .int (i * j)) opMul := r2Ic (fun _ _ h => of_decide_eq_true h) fun _ _ => rfl
abbrev opDiv := opIc (fun i j => decide (CDivW i j)) fun i j => .int (i / j)
theorem r2Div : R2D (rI CDivW fun i j => .int (i / j)) opDiv := r2Ic (fun _ _ h => of_decide_eq_true h) fun _ _ => rfl
abbrev opMod := opIc (fun _ j => decide (0 < j)) fun i j => .int (i % j)
theorem r2Mod : R2D (rI (fun _ j => 0 < j) fun i j => .int (i % j)) opMod := r2Ic (fun _ _ h => of_decide_eq_true h) fun _ _ => rfl
instance (i j : Int) : Decidable (CPow i j) := inferInstanceAs (Decidable (_ ∧ _))
abbrev opPow := opIc (fun i j => decide (CPow i j)) fun i j => .int (i ^ j.toNat)
theorem r2Pow : R2D (rI CPow fun i j => .int (i ^ j.toNat)) opPow := r2Ic (fun _ _ h => of_decide_eq_true h) fun _ _ => rfl
def opNeg : PyData → Option DV
  | .int a => some (.d (.int (-a)))
  | _ => none
theorem r1Neg : R1D (rU fun i => .int (-i)) opNeg := by
  intro t B H v a z Q hB ra e k
  cases ra <;> cases e
  exact ⟨_, rfl, k _ H (fun _ _ h => h) (Rp.int _)⟩
/-- ==, != of what is no list: None, truths, ints, texts -/
def sEq : PyData → PyData → Option Bool
  | .none, .none => some true
  | .none, .int _ => some false
  | .int _, .none => some false
  | .none, .bool _ => some false
  | .bool _, .none => some false
  | .none, .str _ => some false
  | .str _, .none => some false
  | .int a, .int b => some (decide (a = b))
  | .bool a, .bool b => some (decide (a = b))
  | .str a, .str b => some (decide (a = b))
  | _, _ => none
def opEq : PyData → PyData → Option DV := fun a b => (sEq a b).map fun c => .d (.bool c)
def opNe : PyData → PyData → Option DV := fun a b => (sEq a b).map fun c => .d (.bool (!c))
theorem sEq_ok {M : Hp} {v w : V} {a b : PyData} {c : Bool} (ra : Rp M v a) (rb : Rp M w b) (e : sEq a b = some c) : scal v w = true ∧ decide (v = w) = c := by
  cases ra <;> cases rb <;> cases e <;> refine ⟨rfl, ?_⟩ <;> first | rfl | (simp)
theorem r2Eq : R2D rEq opEq := by
  intro t B H v w a b z Q hB ra rb e k
  unfold opEq at e
  cases q : sEq a b with
  | none => rw [q] at e; cases e
  | some c =>
    rw [q] at e
    cases e
    obtain ⟨h1, h2⟩ := sEq_ok ra rb q
    refine ⟨h1, k _ H (fun _ _ h => h) ?_⟩
    rw [h2]
    exact Rp.bl c
theorem r2Ne : R2D rNe opNe := by
  intro t B H v w a b z Q hB ra rb e k
  unfold opNe at e
  cases q : sEq a b with
  | none => rw [q] at e; cases e
  | some c =>
    rw [q] at e
    cases e
    obtain ⟨h1, h2⟩ := sEq_ok ra rb q
    refine ⟨h1, k _ H (fun _ _ h => h) ?_⟩
    rw [h2]
    exact Rp.bl _
/-- ==, !=, in of data of any depth -/
def opEqD : PyData → PyData → Option DV := fun a b => if SeqAt.shaped a = true ∧ SeqAt.shaped b = true then some (.d (.bool (PyData.eqv a b))) else none
def opNeD : PyData → PyData → Option DV := fun a b => if SeqAt.shaped a = true ∧ SeqAt.shaped b = true then some (.d (.bool (!PyData.eqv a b))) else none
theorem up_msk {K : PySem.W.Frag} {B : Addr → Prop} {H : Hp} {v : V} {a : PyData} (r : Rp (msk B H) v a) (hs : SeqAt.shaped a = true) : Dp K H v a := (r.ex msk_le).dp (Bool.and_eq_true_iff.mp hs).1
theorem r2EqD {K : PySem.W.Frag} : R2D (rEqD K) opEqD := by
  intro t B H v w a b z Q hB ra rb e k
  unfold opEqD at e
  split at e
  · rename_i h
    cases e
    exact ⟨a, b, up_msk ra h.1, up_msk rb h.2, h.1, h.2, k _ H (fun _ _ h => h) (Rp.bl _)⟩
  · cases e
theorem r2NeD {K : PySem.W.Frag} : R2D (rNeD K) opNeD := by
  intro t B H v w a b z Q hB ra rb e k
  unfold opNeD at e
  split at e
  · rename_i h
    cases e
    exact ⟨a, b, up_msk ra h.1, up_msk rb h.2, h.1, h.2, k _ H (fun _ _ h => h) (Rp.bl _)⟩
  · cases e
def opIn (neg : Bool) : PyData → PyData → Option DV := fun a b => match b with
  | .list ds => if SeqAt.shaped a = true ∧ SeqAt.shaped (.list ds) = true then some (.d (.bool (if neg then !ds.any fun z => PyData.eqv z a else ds.any fun z => PyData.eqv z a))) else none
  | _ => none
theorem r2In {K : PySem.W.Frag} : R2D (rInD K) (opIn false) := by
  intro t B H v w a b z Q hB ra rb e k
  cases rb <;> simp only [opIn, reduceCtorEq] at e
  split at e
  · rename_i h1 h2 h
    cases e
    exact ⟨a, _, up_msk ra h.1, (Rp.lst h1 h2 |> fun r => up_msk r h.2), h.1, h.2, k _ H (fun _ _ h => h) (Rp.bl _)⟩
  · cases e
theorem r2NotIn {K : PySem.W.Frag} : R2D (rNotInD K) (opIn true) := by
  intro t B H v w a b z Q hB ra rb e k
  cases rb <;> simp only [opIn, reduceCtorEq] at e
  split at e
  · rename_i h1 h2 h
    cases e
    exact ⟨a, _, up_msk ra h.1, (Rp.lst h1 h2 |> fun r => up_msk r h.2), h.1, h.2, k _ H (fun _ _ h => h) (Rp.bl _)⟩
  · cases e
def isN : PyData → Bool
  | .none => true
  | _ => false
def opIsN (neg : Bool) : PyData → PyData → Option DV := fun a b => match b with
  | .none => some (.d (.bool (if neg then !isN a else isN a)))
  | _ => none
theorem isN_ok {M : Hp} {v : V} {a : PyData} (r : Rp M v a) : decide (v = .non) = isN a := by
  cases r <;> rfl
theorem r2IsN : R2D (fun x y H Q => y = .non ∧ Q (.bl (decide (x = .non))) H) (opIsN false) := by
  intro t B H v w a b z Q hB ra rb e k
  cases rb <;> cases e
  refine ⟨rfl, ?_⟩
  rw [isN_ok ra]
  exact k _ H (fun _ _ h => h) (Rp.bl _)
theorem r2NotN : R2D (fun x y H Q => y = .non ∧ Q (.bl (!decide (x = .non))) H) (opIsN true) := by
  intro t B H v w a b z Q hB ra rb e k
  cases rb <;> cases e
  refine ⟨rfl, ?_⟩
  rw [isN_ok ra]
  exact k _ H (fun _ _ h => h) (Rp.bl _)
/-- items -/
theorem RpA.atI {M : Hp} {vs : List V} {ds : List PyData} {i : Int} {d : PyData} (r : RpA M vs ds) (e : atI ds i = some d) : ∃ v, atI vs i = some v ∧ Rp M v d := by
  unfold L2.atI at e ⊢
  rw [r.length]
  cases q : ixN ds.length i with
  | none => rw [q] at e; cases e
  | some j =>
    rw [q] at e
    exact r.get e
def opIxL : PyData → PyData → Option DV
  | .list ds, .int i => (atI ds i).map .d
  | _, _ => none
def opIxT : PyData → PyData → Option DV
  | .tuple ds, .int i => (atI ds i).map .d
  | _, _ => none
theorem r2IxL {K : PySem.W.Frag} : R2D (rIxL K) opIxL := by
  intro t B H v w a b z Q hB ra rb e k
  cases ra <;> cases rb <;> simp only [opIxL, reduceCtorEq] at e
  rename_i h1 h2 i
  cases q : atI _ i with
  | none => rw [q] at e; cases e
  | some d =>
    rw [q] at e
    cases e
    obtain ⟨u, e1, r1⟩ := h2.atI q
    exact ⟨_, _, i, u, rfl, rfl, SqL.of (msk_some h1).2, e1, k _ H (fun _ _ h => h) r1⟩
theorem r2IxT {K : PySem.W.Frag} : R2D (rIxT K) opIxT := by
  intro t B H v w a b z Q hB ra rb e k
  cases ra <;> cases rb <;> simp only [opIxT, reduceCtorEq] at e
  rename_i h1 h2 i
  cases q : atI _ i with
  | none => rw [q] at e; cases e
  | some d =>
    rw [q] at e
    cases e
    obtain ⟨u, e1, r1⟩ := h2.atI q
    exact ⟨_, _, i, u, rfl, rfl, SqT.of (msk_some h1).2, e1, k _ H (fun _ _ h => h) r1⟩
/-- a new list of what lists hold -/
theorem new_own {t : V} {B : Addr → Prop} {H : Hp} {p : Addr} {vs : List V} {ds : List PyData} (hB : ∀ b, B b → ∃ o, H b = some o) (hp : H p = none) (h : RpA (msk B H) vs ds) : VOk t B H (.ref p) (upd H p (.lst vs)) (.own ds) := by
  refine ⟨p, vs, rfl, ⟨.of hp, fun z => by obtain ⟨o, e⟩ := hB p z; rw [hp] at e; cases e⟩, upd_same, h.ex fun b o _ e => ?_⟩
  obtain ⟨h1, h2⟩ := msk_some e
  have ne : b ≠ p := ne_of_none h2 hp
  rw [msk_out (fun z => z.elim h1 ne), upd_ne ne]
  exact h2
theorem new_tup {t : V} {B : Addr → Prop} {H : Hp} {p : Addr} {vs : List V} {ds : List PyData} (hB : ∀ b, B b → ∃ o, H b = some o) (hp : H p = none) (h : RpA (msk B H) vs ds) : VOk t B H (.ref p) (upd H p (.tup vs)) (.d (.tuple ds)) := by
  refine .tup (by rw [msk_out fun z => by obtain ⟨o, e⟩ := hB p z; rw [hp] at e; cases e]; exact upd_same) (h.ex fun b o _ e => ?_)
  obtain ⟨h1, h2⟩ := msk_some e
  rw [msk_out h1, upd_ne (ne_of_none h2 hp)]
  exact h2
def opCat : PyData → PyData → Option DV
  | .list a, .list b => if a.length + b.length ≤ 200000 then some (.own (a ++ b)) else none
  | _, _ => none
theorem r2Cat : R2D rCat opCat := by
  intro t B H v w a b z Q hB ra rb e k
  cases ra <;> cases rb <;> simp only [opCat, reduceCtorEq] at e
  rename_i h1 h2 _ _ _ h3 h4
  split at e
  · rename_i hz
    cases e
    refine ⟨_, _, _, _, rfl, rfl, (msk_some h1).2, (msk_some h3).2, ?_, fun p hp => k _ _ (same_new hp) (new_own hB hp (h2.app h4))⟩
    rw [h2.length, h4.length]
    exact Nat.le_trans hz (by decide)
  · cases e
/-- built-ins over data -/
def bLen : List PyData → Option DV
  | [.list ds] => some (.d (.int (ds.length : Nat)))
  | [.tuple ds] => some (.d (.int (ds.length : Nat)))
  | _ => none
theorem rsLen {K : PySem.W.Frag} : RsD (fun xs H Q => ∃ p ys, xs = [.ref p] ∧ (SqL K H p ys ∨ SqT K H p ys) ∧ Q (.int ys.length) H) bLen := by
  intro t B H vs as z Q hB r e k
  cases r with
  | nil => cases e
  | cons r t =>
    cases t with
    | cons _ _ => cases r <;> cases e
    | nil =>
      cases r <;> cases e
      · rename_i h1 h2
        refine ⟨_, _, rfl, .inl (SqL.of (msk_some h1).2), k _ H (fun _ _ h => h) ?_⟩
        rw [h2.length]
        exact Rp.int _
      · rename_i h1 h2
        refine ⟨_, _, rfl, .inr (SqT.of (msk_some h1).2), k _ H (fun _ _ h => h) ?_⟩
        rw [h2.length]
        exact Rp.int _
def bList : List PyData → Option DV
  | [.list ds] => some (.own ds)
  | [.tuple ds] => some (.own ds)
  | _ => none
theorem rsList {K : PySem.W.Frag} : RsD (fun xs H Q => ∃ p ys, xs = [.ref p] ∧ (SqL K H p ys ∨ SqT K H p ys) ∧ ∀ l, H l = none → Q (.ref l) (upd H l (.lst ys))) bList := by
  intro t B H vs as z Q hB r e k
  cases r with
  | nil => cases e
  | cons r t =>
    cases t with
    | cons _ _ => cases r <;> cases e
    | nil =>
      cases r <;> cases e
      · rename_i h1 h2
        exact ⟨_, _, rfl, .inl (SqL.of (msk_some h1).2), fun l hl => k _ _ (same_new hl) (new_own hB hl h2)⟩
      · rename_i h1 h2
        exact ⟨_, _, rfl, .inr (SqT.of (msk_some h1).2), fun l hl => k _ _ (same_new hl) (new_own hB hl h2)⟩
/-- the ints of a list -/
def intsOf : List PyData → Option (List Int)
  | [] => some []
  | .int i :: ds => (intsOf ds).map (i :: ·)
  | _ => none
theorem ints_of {M : Hp} : ∀ {vs : List V} {ds : List PyData} {ns : List Int}, RpA M vs ds → intsOf ds = some ns → vs = ns.map V.int
  | _, _, _, .nil, e => by cases e; rfl
  | _, _, ns, .cons r t, e => by
    cases r <;> simp only [intsOf, reduceCtorEq] at e
    cases q : intsOf _ with
    | none => rw [q] at e; cases e
    | some ms =>
      rw [q] at e
      cases e
      rw [ints_of t q]
      rfl
def bSum : List PyData → Option DV
  | [.list ds] => (intsOf ds).map fun ns => .d (.int ns.sum)
  | _ => none
theorem rsSum {K : PySem.W.Frag} : RsD (rSum K) bSum := by
  intro t B H vs as z Q hB r e k
  cases r with
  | nil => cases e
  | cons r t =>
    cases t with
    | cons _ _ => cases r <;> cases e
    | nil =>
      cases r <;> simp only [bSum, reduceCtorEq] at e
      rename_i a xs ds h1 h2
      cases q : intsOf ds with
      | none => rw [q] at e; cases e
      | some ns =>
        rw [q] at e
        cases e
        refine ⟨_, ns, rfl, ?_, k _ H (fun _ _ h => h) (Rp.int _)⟩
        rw [← ints_of h2 q]
        exact SqL.of (msk_some h1).2
def b2I (g : Int → Int → Int) : List PyData → Option DV
  | [.int a, .int b] => some (.d (.int (g a b)))
  | _ => none
theorem rs2I {g : Int → Int → Int} : RsD (fun xs H Q => ∃ i j, xs = [.int i, .int j] ∧ Q (.int (g i j)) H) (b2I g) := by
  intro t B H vs as z Q hB r e k
  cases r with
  | nil => cases e
  | cons r t =>
    cases t with
    | nil => cases r <;> cases e
    | cons q t =>
      cases t with
      | cons _ _ => cases r <;> cases q <;> cases e
      | nil =>
        cases r <;> cases q <;> cases e
        exact ⟨_, _, rfl, k _ H (fun _ _ h => h) (Rp.int _)⟩
abbrev bMax2 := b2I fun i j => if j > i then j else i
abbrev bMin2 := b2I fun i j => if j < i then j else i
def bAbs : List PyData → Option DV
  | [.int a] => some (.d (.int (if a < 0 then -a else a)))
  | _ => none
theorem rsAbs : RsD (fun xs H Q => ∃ i, xs = [.int i] ∧ Q (.int (if i < 0 then -i else i)) H) bAbs := by
  intro t B H vs as z Q hB r e k
  cases r with
  | nil => cases e
  | cons r t =>
    cases t with
    | cons _ _ => cases r <;> cases e
    | nil =>
      cases r <;> cases e
      exact ⟨_, rfl, k _ H (fun _ _ h => h) (Rp.int _)⟩

/-! ### contracts -/
def plainOf : List DV → Option (List PyData)
  | [] => some []
  | .d x :: rs => (plainOf rs).map (x :: ·)
  | _ => none
theorem plainOf_R : ∀ {rs : List DV} {ds : List PyData}, plainOf rs = some ds → plainR rs ∧ rs.length = ds.length
  | [], _, e => by cases e; exact ⟨fun r h => (by cases h), rfl⟩
  | .d x :: rs, ds, e => by
    unfold plainOf at e
    cases q : plainOf rs with
    | none => rw [q] at e; cases e
    | some es =>
      rw [q] at e
      cases e
      obtain ⟨h1, h2⟩ := plainOf_R q
      refine ⟨fun r h => ?_, by show rs.length + 1 = es.length + 1; rw [h2]⟩
      rcases List.mem_cons.mp h with z | z
      · exact .inl ⟨x, z⟩
      · exact h1 r z
  | .un :: _, _, e => by cases e
  | .tape :: _, _, e => by cases e
  | .raw _ :: _, _, e => by cases e
  | .own _ :: _, _, e => by cases e
  | .dic _ :: _, _, e => by cases e
/-- a def of k data that tells what g tells -/
def mP (k : Nat) (g : List PyData → Option DV) : DM := fun rs n Q => ∃ ds, plainOf rs = some ds ∧ ds.length = k ∧ ∃ z, g ds = some z ∧ Q z n
theorem lP {k : Nat} {g : List PyData → Option DV} : ∀ rs n Q, mP k g rs n Q → plainR rs ∧ rs.length = k := fun rs n Q ⟨ds, e, h, _⟩ => ⟨(plainOf_R e).1, (plainOf_R e).2.trans h⟩
/-- a def of a tape and k data -/
def tapeOf : List DV → Option (List PyData)
  | .tape :: rs => plainOf rs
  | _ => none
def mT (k : Nat) (g : List PyData → Fam.S → DQ → Prop) : DM := fun rs n Q => ∃ ds, tapeOf rs = some ds ∧ ds.length = k ∧ g ds n Q
theorem lT {k : Nat} {g : List PyData → Fam.S → DQ → Prop} : ∀ rs n Q, mT k g rs n Q → plainR rs ∧ rs.length = k + 1 := fun rs n Q ⟨ds, e, h, _⟩ => by
  cases rs with
  | nil => cases e
  | cons r rs =>
    cases r <;> first | cases e; done | skip
    have e' : plainOf rs = some ds := e
    obtain ⟨h1, h2⟩ := plainOf_R e'
    refine ⟨fun r hr => ?_, by show rs.length + 1 = _; rw [h2, h]⟩
    rcases List.mem_cons.mp hr with z | z
    · exact .inr z
    · exact h1 r z
/-- a list, a dict of one's own is told -/
theorem psRetOwn {X : Cx} {i : Nat} {e : Expr} {pos : Pos} (h : PE X e (tVar i)) : PS X (.Return (some e) pos) (sD fun E ρ n => ∃ r, ρ[i]? = some r ∧ r.isOwn = true ∧ E.rt r n) := (ps_ret h).imp fun D σ H ⟨c, A, n, ρ, E, e, ⟨r, h1, h2, h3⟩, L⟩ => by
  have q := e.slot i _ h1
  have xt : ∀ a, A i = some a → Xt (msk (c.av n A) H) (msk (fun b => c.B n b ∨ b = a) H) := fun a ha b o _ e' => by
    obtain ⟨g1, g2⟩ := msk_some e'
    rw [msk_out]
    · exact g2
    · rintro (z | z)
      · exact g1 (.inl z)
      · exact g1 (.inr ⟨i, by rw [z]; exact ha⟩)
  cases r with
  | un => cases h2
  | tape => cases h2
  | raw v => cases h2
  | d x => cases h2
  | own ds =>
    obtain ⟨a, vs, g1, g2, g3, g4⟩ := q
    refine ⟨_, g2, L.rt _ _ n H h3 ⟨e.keep, c.Gx e.g fun b o _ e' => ?_⟩ ⟨a, vs, rfl, ⟨e.new i a g1, e.nP g1⟩, g3, g4.ex (xt a g1)⟩⟩
    obtain ⟨k1, k2⟩ := msk_some e'
    rw [msk_out]
    · exact k2
    · rintro ((z | ⟨_, z⟩) | z)
      · exact k1 (.inl z)
      · cases z
      · cases z
        exact k1 (.inr ⟨i, g1⟩)
  | dic kvs =>
    obtain ⟨a, vs, g1, g2, g3, g4⟩ := q
    refine ⟨_, g2, L.rt _ _ n H h3 ⟨e.keep, c.Gx e.g fun b o _ e' => ?_⟩ ⟨a, vs, rfl, ⟨e.new i a g1, e.nP g1⟩, g3, g4.ex (xt a g1)⟩⟩
    obtain ⟨k1, k2⟩ := msk_some e'
    rw [msk_out]
    · exact k2
    · rintro ((z | ⟨_, z⟩) | z)
      · exact k1 (.inl z)
      · cases z
      · cases z
        exact k1 (.inr ⟨i, g1⟩)
/-- a, b = e1, e2 -/
def dPar (i j : Nat) (g : DA) : DS := fun E ρ n => g ρ n fun rs n1 => ∃ x y, rs = [.d x, .d y] ∧ i < ρ.length ∧ j < ρ.length ∧ E.nx ((ρ.set i (.d x)).set j (.d y)) n1
theorem psPar {X : Cx} {i j : Nat} {g : DA} {st : Stmt} (h : PS X st (tPar i j (tDA g))) : PS X st (sD (dPar i j g)) := h.imp fun D σ H ⟨c, A, n, ρ, E, e, hf, L⟩ => by
  refine ⟨c, A, n, ρ, _, e, hf, fun vs rs n1 H1 ⟨x, y, er, hi, hj, h1⟩ f1 o1 => ?_⟩
  subst er
  cases o1 with
  | @cons v _ vs _ hv _ t =>
    cases t with
    | @cons w _ ws _ hw _ t =>
      cases t
      refine ⟨v, w, rfl, ?_⟩
      have e1 := (e.fr f1).pins (l := [(w, y)]) fun p hp => by rw [List.mem_singleton.mp hp]; exact hw
      have e2 := e1.putD (i := i) (v := v) (d := x) hv hi
      have hw2 := e2.pinned (p := (w, y)) (List.mem_singleton.mpr rfl)
      exact L.nx _ _ _ _ _ h1 (e2.unpin.putD (i := j) hw2 (by rw [List.length_set]; exact hj))
def dPar3 (i j l : Nat) (g : DA) : DS := fun E ρ n => g ρ n fun rs n1 => ∃ x y z, rs = [.d x, .d y, .d z] ∧ i < ρ.length ∧ j < ρ.length ∧ l < ρ.length ∧ E.nx (((ρ.set i (.d x)).set j (.d y)).set l (.d z)) n1
theorem psPar3 {X : Cx} {i j l : Nat} {g : DA} {st : Stmt} (h : PS X st (tPar3 i j l (tDA g))) : PS X st (sD (dPar3 i j l g)) := h.imp fun D σ H ⟨c, A, n, ρ, E, e, hf, L⟩ => by
  refine ⟨c, A, n, ρ, _, e, hf, fun vs rs n1 H1 ⟨x, y, z, er, hi, hj, hl, h1⟩ f1 o1 => ?_⟩
  subst er
  cases o1 with
  | @cons v _ vs _ hv _ t =>
    cases t with
    | @cons w _ ws _ hw _ t =>
      cases t with
      | @cons u _ us _ hu _ t =>
        cases t
        refine ⟨v, w, u, rfl, ?_⟩
        have e1 := (e.fr f1).pins (l := [(w, y), (u, z)]) fun p hp => by
          rcases List.mem_cons.mp hp with q | q
          · rw [q]; exact hw
          · rw [List.mem_singleton.mp q]; exact hu
        have e2 := e1.putD (i := i) (v := v) (d := x) hv hi
        have hw2 := e2.pinned (p := (w, y)) List.mem_cons_self
        have e3 := e2.putD (i := j) hw2 (by rw [List.length_set]; exact hj)
        have hu2 := e3.pinned (p := (u, z)) (List.mem_cons_of_mem _ List.mem_cons_self)
        exact L.nx _ _ _ _ _ h1 (e3.unpin.putD (i := l) hu2 (by rw [List.length_set, List.length_set]; exact hl))
end

/-! ### sorted(xs, key=lambda row: (row[3], row[7])), and (-row[3], row[7]) -/
def lamArgs (p : Pos) : Arguments := { posonlyargs := [], args := [{ arg := "row", annotation := none, pos := p }], vararg := none, kwonlyargs := [], kw_defaults := [], kwarg := none, defaults := [] }
def lamScope : Scope := { kind := .function, names := [("row", .local)], isGenerator := false, isCoroutine := false }
def rowAt (k : Int) (p1 p2 p3 : Pos) : Expr := .Subscript (.Name "row" p1) (.Constant (.int k) 0 p2) p3
def keyE (neg : Bool) (p1 p2 p3 p4 p5 p6 p7 p8 : Pos) : Expr := .Tuple [if neg then .UnaryOp .USub (rowAt 3 p1 p2 p3) p4 else rowAt 3 p1 p2 p3, rowAt 7 p5 p6 p7] 0 p8
section
variable {prog : Program} {w : World} {A : Around} {E : Value → Shared → Prop} {s : Shared}
theorem rowAt_ok {q : Str} {L f c' t : Addr} {m : Str → Option Value} {items : Array Value} {k : Int} {j : Nat} {x : Value} {p1 p2 p3 : Pos} {Q : Value → Shared → Prop} (hn : s.heap.Ns L m) (hm : m "row" = some (.ref t)) (ht : PyProof.Rows.IsTup s.heap t items) (h0 : 0 ≤ k) (h63 : k < 2 ^ 63)
    (hj : seqIndex? k items.size = some j) (hx : items[j]? = some x) (h : ∀ tk, Q x { s with toks := tk }) : wpAny (model prog w) A (eval (rowAt k p1 p2 p3) (PySem.W.envX q lamScope L f (.ref c') [])) Q E s := by
  refine PyProof.Rows.Subscript_ (wpAny_Name (wpAny_loadName_local rfl rfl hn hm ?_) (by decide))
  refine wpAny_Constant_int ?_
  exact PyProof.Rows.subscriptTail_builtinR (x := x) (PyProof.Rows.IsTup.typeIs ht) PySem.F.slot_tuple_getitem.lookup
    (PyProof.Rows.getItem_tuple (j := j) (Q := fun r s' => r = x ∧ Q r s') ht (by omega) h63 hj hx ⟨rfl, h _⟩) rfl
def key1 (neg : Bool) (i : Int) : Int := if neg = true then -i else i
theorem keyE_ok {neg : Bool} {q : Str} {L f c' t : Addr} {m : Str → Option Value} {items : Array Value} {i j : Int} {ti tj : Tok} {p1 p2 p3 p4 p5 p6 p7 p8 : Pos} {Q : Value → Shared → Prop} (hn : s.heap.Ns L m) (hm : m "row" = some (.ref t)) (ht : PyProof.Rows.IsTup s.heap t items) (hz : items.size = 8)
    (h3 : items[3]? = some (.int i ti)) (h7 : items[7]? = some (.int j tj))
    (h : ∀ tk u, Q (.ref s.heap.objs.size) { s with heap := s.heap.push { cls := .type "tuple", data := .seq #[.int (key1 neg i) u, .int j tj] }, toks := tk }) :
    wpAny (model prog w) A (eval (keyE neg p1 p2 p3 p4 p5 p6 p7 p8) (PySem.W.envX q lamScope L f (.ref c') [])) Q E s := by
  refine wpAny_Tuple_spliced ?_
  have last : ∀ {tk : Nat} {R : List Value → Shared → Prop}, (∀ tk', R [.int j tj] { s with toks := tk' }) →
      wpAny (model prog w) A (spliced (backTo p8 (starEach [rowAt 7 p5 p6 p7] (PySem.W.envX q lamScope L f (.ref c') [])))) R E { s with toks := tk } := fun {tk R} hR => by
    show wpAny _ _ (spliced ((false, eval (rowAt 7 p5 p6 p7) (PySem.W.envX q lamScope L f (.ref c') [])) :: backTo p8 (starEach [] (PySem.W.envX q lamScope L f (.ref c') [])))) _ _ _
    refine Calls.spliced_cons (rowAt_ok (s := { s with toks := tk }) (j := 7) hn hm ht (by decide) (by decide) (by rw [hz]; rfl) h7 fun tk2 => ?_)
    exact Calls.spliced_nil (hR _)
  cases neg with
  | true =>
    show wpAny _ _ (spliced ((false, eval (.UnaryOp .USub (rowAt 3 p1 p2 p3) p4) (PySem.W.envX q lamScope L f (.ref c') [])) :: backTo p8 (starEach [rowAt 7 p5 p6 p7] (PySem.W.envX q lamScope L f (.ref c') [])))) _ _ _
    refine Calls.spliced_cons (PyProof.Rows.UnaryOp_ (rowAt_ok (j := 3) hn hm ht (by decide) (by decide) (by rw [hz]; rfl) h3 fun tk1 => PyProof.Rows.neg_int ?_))
    exact last fun tk' => ⟨by show 2 ≤ sizeLine; decide, h _ _⟩
  | false =>
    show wpAny _ _ (spliced ((false, eval (rowAt 3 p1 p2 p3) (PySem.W.envX q lamScope L f (.ref c') [])) :: backTo p8 (starEach [rowAt 7 p5 p6 p7] (PySem.W.envX q lamScope L f (.ref c') [])))) _ _ _
    refine Calls.spliced_cons (rowAt_ok (j := 3) hn hm ht (by decide) (by decide) (by rw [hz]; rfl) h3 fun tk1 => ?_)
    exact last fun tk' => ⟨by show 2 ≤ sizeLine; decide, h _ _⟩
/-- the lambda, called with a row -/
theorem lam_key {neg : Bool} {q : Str} {f c' t : Addr} {pm ctv : Value} {items : Array Value} {i j : Int} {ti tj : Tok} {p0 p1 p2 p3 p4 p5 p6 p7 p8 : Pos} (hd : A.depth < recursionLimit) (hlim : s.heap.NoLimit)
    (hf : s.heap.get? f = some (PySem.W.kla_obj "<lambda>" q (lamArgs p0) (keyE neg p1 p2 p3 p4 p5 p6 p7 p8) lamScope [] pm c' ctv)) (hrec : s.heap.CodeRec (.ref c') q) (ht : PyProof.Rows.IsTup s.heap t items) (hz : items.size = 8)
    (h3 : items[3]? = some (.int i ti)) (h7 : items[7]? = some (.int j tj)) :
    wpAny (model prog w) A (call (.ref f) [.ref t]) (PySem.W.KeyPure (.tuple [.int (key1 neg i), .int j]) s) (fun _ _ => False) s := by
  refine wpAny_call (PySem.W.kla_callFunE hd hf rfl rfl rfl rfl hrec ?_)
  have hb : bindArgs (PySem.W.kla_fn "<lambda>" q (lamArgs p0) (keyE neg p1 p2 p3 p4 p5 p6 p7 p8) lamScope [] pm (.ref c') ctv) ⟨[.ref t], []⟩ = pure [(("row" : Str), Value.ref t)] := by first | rfl | with_unfolding_all rfl | kernel_rfl
  rw [hb]
  refine wpAny_pure (wpAny_newFunctionEnv (scope := lamScope) (by decide +kernel) (fun y hy => by rw [List.mem_singleton.mp hy]; rfl) (fun h₁ hns hsb => ⟨hlim.fresh _ hsb, ?_⟩) rfl)
  show codeAny _ _ (.expr (keyE neg p1 p2 p3 p4 p5 p6 p7 p8) (PySem.W.envX q lamScope s.heap.objs.size f (.ref c') [])) _ _
  have kp : ∀ b o, s.heap.get? b = some o → h₁.get? b = some o := fun b o e => hsb.extBut b o (Nat.ne_of_lt (Heap.lt_size e)) (Heap.get?_push_of_some _ e)
  refine PySem.W.kla_codeExpr ?_
  refine keyE_ok (items := items) (i := i) (j := j) hns rfl (ht.keeps kp) hz h3 h7 fun tk u => ?_
  have kp2 : ∀ b o, s.heap.get? b = some o → (h₁.push { cls := .type "tuple", data := .seq #[.int (key1 neg i) u, .int j tj] } : Heap).get? b = some o := fun b o e => Heap.get?_push_of_some _ (kp b o e)
  refine ⟨_, _, rfl, kp2, ?_⟩
  exact Reads.tuple (Heap.get?_push_size _ rfl) rfl rfl (.cons (.int _ _) (.cons (.int _ _) .nil))
end
def rowLe (neg : Bool) (kk : V → Int × Int) : V → V → Bool := fun p q => decide (key1 neg (kk p).1 < key1 neg (kk q).1 ∨ (key1 neg (kk p).1 = key1 neg (kk q).1 ∧ (kk p).2 ≤ (kk q).2))
theorem extN_L {K : PySem.W.Frag} {H H' : Hp} {a : Addr} {xs : List V} (e : LamX.ExtN H H') (h : SqL K H a xs) : SqL K H' a xs := by
  rcases h with (h | ⟨o, h⟩) | h
  · exact .inl (.inl (e _ _ h fun ps z => by cases z))
  · exact .inl (.inr ⟨o, e _ _ h fun ps z => by cases z⟩)
  · exact .inr h
theorem extN_T {K : PySem.W.Frag} {H H' : Hp} {a : Addr} {xs : List V} (e : LamX.ExtN H H') (h : SqT K H a xs) : SqT K H' a xs := by
  rcases h with (h | ⟨o, h⟩) | h
  · exact .inl (.inl (e _ _ h fun ps z => by cases z))
  · exact .inl (.inr ⟨o, e _ _ h fun ps z => by cases z⟩)
  · exact .inr h
theorem each_of : ∀ {xs : List V} {us : List Value}, Vals xs us → PySem.W.EachIs (fun v x => RelV x v) us xs
  | _, _, .nil => .nil
  | _, _, .cons r t => .cons r (each_of t)
theorem vals_of : ∀ {us : List Value} {xs : List V}, PySem.W.EachIs (fun v x => RelV x v) us xs → Vals xs us
  | _, _, .nil => .nil
  | _, _, .cons r t => .cons r (vals_of t)
/-- what a row's lambda asks of the rows, what is told -/
def tSortLam (K : PySem.W.Frag) (T : List (Addr × Str)) (neg : Bool) (te : TE) : TE := fun σ H Q => te σ H fun x H1 => ∃ (a : Addr) (xs : List V) (kk : V → Int × Int), x = .ref a ∧ SqL K H1 a xs ∧
  (∀ y ∈ xs, ∃ t ws, y = .ref t ∧ SqT K H1 t ws ∧ ws.length = 8 ∧ ws[3]? = some (.int (kk y).1) ∧ ws[7]? = some (.int (kk y).2)) ∧ LamX.Tabs T H1 ∧
  ∀ H2 p, LamX.ExtN H1 H2 → LamX.Tabs T H2 → H2 p = none → Q (.ref p) (upd H2 p (.lst (xs.mergeSort (rowLe neg kk))))
theorem pe_sortLam {X : Cx} {T : List (Addr × Str)} {c P : Addr} {neg : Bool} {e : Expr} {te : TE} {p pos lpos kpos p0 p1 p2 p3 p4 p5 p6 p7 p8 : Pos} (hg : Gl X "sorted") (hm : X.mg "sorted" = none) (TB : LamX.TabB X.base X.mg c P) (hcode : X.env.code = .ref c)
    (hmT : (P, X.env.qual ++ "<lambda>") ∈ T) (hu : ∀ p ∈ T, p.1 = P → p.2 = X.env.qual ++ "<lambda>") (hr : Room 1 X.A) (he : PE X e te)
    (hst : backTo pos (starEach [e] X.env) = (false, eval e X.env) :: backTo pos (starEach [] X.env) := by rfl) (hpl : (backTo pos (starEach [e] X.env)).any (·.1) = false := by rfl) :
    PE X (.Call (.Name "sorted" p) [e] [⟨some "key", .Lambda (lamArgs p0) (keyE neg p1 p2 p3 p4 p5 p6 p7 p8) lamScope lpos, kpos⟩] pos) (tSortLam X.K T neg te) := by
  refine ⟨fun pins s σ H Q I h => ?_⟩
  refine wpAny_Call_Name_kw (ld_blt I hg hm (by decide +kernel : bootBuiltins "sorted" = some (.builtin "sorted")) ?_ (by decide) (by decide))
  refine PyProof.Rows.callWith_kw (kws := [⟨some "key", .Lambda (lamArgs p0) (keyE neg p1 p2 p3 p4 p5 p6 p7 p8) lamScope lpos, kpos⟩]) ?_ hst hpl rfl rfl
  rw [hst]
  refine Calls.spliced_cons (thn (he.run pins s σ H _ I h) fun u s1 ⟨x, H1, I1, r1, q1⟩ => Calls.spliced_nil ?_)
  obtain ⟨a, xs, kk, rfl, hs, hk, hT, q⟩ := q1
  obtain rfl : u = Value.ref a := r1
  show wpAny _ _ (evalAll ((do let v ← eval (.Lambda (lamArgs p0) (keyE neg p1 p2 p3 p4 p5 p6 p7 p8) lamScope lpos) X.env; standAt pos; pure v) :: [])) _ _ s1
  refine wpAny_evalAll_cons (wpAny_bind (LamX.lam_make2 I1 TB hcode hmT hu hT rfl (fun y hy e => by rw [List.mem_singleton.mp hy] at e; cases e) fun f c' pm ctv H2 s2 I2 eN T2 hf hfn hfr hco => wpAny_bind (wpAny_standAt (wpAny_pure ?_))))
  refine wpAny_evalAll_nil ?_
  show wpAny _ _ (call (.builtin "sorted") [.ref a] [("key", .ref f)]) _ _ s2
  obtain ⟨its, rv, hl, hz⟩ := I2.list (extN_L eN hs)
  have hun := hr.un
  have hdp := hr.dp
  have hrec : s2.heap.CodeRec (.ref c') (X.env.qual ++ "<lambda>") := by
    obtain ⟨⟨oc, vs, t, h1, h2, h3⟩, _⟩ := I2.hok c' _ hco
    exact ⟨c', oc, vs, t, rfl, h1, h2, h3⟩
  refine PySem.W.sorted_key_data (β := V) (R := fun v x => RelV x v) (b := false) (bs := xs) (vs := its) (fun y => .tuple [.int (key1 neg (kk y).1), .int (kk y).2]) hl.isList (each_of rv) ?_ ?_ hz ?_ (PyProof.Rows.ksk_s1 _ _) (fun _ => PyProof.Rows.ksk_l1 _ _) (fun x => PyProof.Rows.ksk_t1 f x) ?_ ?_
  · intro d hd d' hd'
    obtain ⟨y, _, rfl⟩ := List.mem_map.mp hd
    obtain ⟨y', _, rfl⟩ := List.mem_map.mp hd'
    rfl
  · refine .inl fun d hd => ?_
    obtain ⟨y, _, rfl⟩ := List.mem_map.mp hd
    exact ⟨_, _, rfl⟩
  · intro y hy
    have e : (PyData.tuple [.int (key1 neg (kk y).1), .int (kk y).2]).depth ≤ 10 := by
      simp [PyData.depth, PyData.depthAll]
    omega
  · intro v y hv hy h tk keep
    obtain ⟨t, ws, rfl, ht, hlen, h3, h7⟩ := hk y hy
    obtain rfl : v = Value.ref t := hv
    obtain ⟨its2, rv2, pl, hz2⟩ := I2.tuple (extN_T eN ht)
    obtain ⟨u3, e3, ru3⟩ := rv2.get h3
    obtain ⟨u7, e7, ru7⟩ := rv2.get h7
    obtain ⟨t3, rfl⟩ := ru3
    obtain ⟨t7, rfl⟩ := ru7
    exact lam_key (s := { s2 with heap := h, toks := tk }) (items := its2.toArray) (by show X.A.depth < _; omega) (I2.nolimit.keeps keep) (keep _ _ hf) (hrec.keeps keep) (pl.keeps keep) (by rw [List.size_toArray, ← rv2.length, hlen]) (by simpa using e3) (by simpa using e7)
  · intro out cc h' tk keep fresh hget hlen each
    have e2 : PySem.W.dataLe false (fun y : V => PyData.tuple [.int (key1 neg (kk y).1), .int (kk y).2]) = rowLe neg kk := PySem.W.dataLe_ii (fun y => key1 neg (kk y).1) (fun y => (kk y).2)
    rw [e2] at each
    refine ⟨.ref _, upd H2 (s2.heap.objs.size + 1) (.lst (xs.mergeSort (rowLe neg kk))), I2.laid (t' := tk) keep (Nat.le_succ _) ⟨?_, out, cc, vals_of each, hget⟩, rfl, q H2 _ eN T2 (I2.hok.fresh (Nat.le_succ _))⟩
    rw [List.length_mergeSort]
    exact hz

/-! ### data readings: slices, tuples joined, sorting, calls by keywords -/
section
variable [Fam] [Tabz]
theorem _root_.L2.Room.units65 {k : Nat} {A : Around} (r : Room k A) : A.units + 65 < cLine := by have := r.un; omega
def truD : PyData → Option Bool
  | .none => some false
  | .bool b => some b
  | .int i => some (i != 0)
  | .list ds => some (!ds.isEmpty)
  | .tuple ds => some (!ds.isEmpty)
  | _ => none
def dTru (f : DF) : DT := fun ρ n Q => f ρ n fun r n1 => ∃ a, r.dat = some a ∧ ∃ b, truD a = some b ∧ Q b n1
theorem RpA.empty {M : Hp} {vs : List V} {ds : List PyData} (r : RpA M vs ds) : vs.isEmpty = ds.isEmpty := by
  cases r <;> rfl
theorem ptTru {X : Cx} {a : Expr} {f : DF} (ha : PE X a (tD f)) (he : ∀ whole, isTrue a X.env whole = (do let v ← whole; standAt a.pos; holding [v] (truthy v))) : PT X a (tDT (dTru f)) := (pt_truth ha he).imp fun σ H Q ⟨c, A, n, ρ, Q', E, hf, k⟩ => by
  refine ⟨c, A, n, ρ, _, E, hf, fun v r n1 H1 ⟨a, ea, b, eb, hq⟩ f1 o1 => ⟨b, ?_, k b n1 H1 hq f1.fr⟩⟩
  have rp := o1.dat E ea
  cases rp with
  | non => cases eb; exact rfl
  | bl b => cases eb; exact rfl
  | int i => cases eb; exact rfl
  | str x => cases eb
  | hnd a => cases eb
  | lst h1 h2 =>
    cases eb
    exact .inl ⟨_, SqL.of (msk_some h1).2, by rw [h2.empty]⟩
  | tup h1 h2 =>
    cases eb
    exact .inr (.inl ⟨_, SqT.of (msk_some h1).2, by rw [h2.empty]⟩)
/-- what is told, as data -/
theorem pdCold {X : Cx} {e : Expr} {f : DF} (h : PE X e (tD f)) : PE X e (tD fun ρ n Q => f ρ n fun r n1 => Q r.cold n1) := h.imp fun σ H Q ⟨c, A, n, ρ, Q', E, hf, k⟩ => ⟨c, A, n, ρ, _, E, hf, fun v r n1 H1 hq f1 o1 => k v _ n1 H1 hq ⟨f1.1, c.Gx f1.2 (by cases r <;> first | exact fun _ _ _ h => h | exact hide_xt)⟩ o1.cold⟩
/-- two comparisons -/
def dChain (o1 o2 : PyData → PyData → Option DV) (f g h : DF) : DF := fun ρ n Q => f ρ n fun x n1 => g ρ n1 fun y n2 => ∃ a, x.dat = some a ∧ ∃ b, y.dat = some b ∧ ∃ k, o1 a b = some (.d (.bool k)) ∧ if k = true then h ρ n2 fun w n3 => ∃ c, w.dat = some c ∧ ∃ z, o2 b c = some z ∧ Q z n3 else Q (.d (.bool false)) n2
theorem chain_le {r r' : R2} {op op' : PyData → PyData → Option DV} {f g h : DF} (h1 : R2D r op) (h2 : R2D r' op') (σ : L2.St) (H : Hp) (Q : VK) (q : tD (dChain op op' f g h) σ H Q) : tChain r r' (tD f) (tD g) (tD h) σ H Q := by
  obtain ⟨c, A, n, ρ, Q', E, hf, k⟩ := q
  refine ⟨c, A, n, ρ, _, E, hf, fun v x n1 H1 hg f1 o1 => ⟨c, A, n1, ρ, _, E.fr f1, hg, fun w y n2 H2 hz f2 o2 => ?_⟩⟩
  obtain ⟨a, ea, b, eb, kb, ek, hq⟩ := hz
  have E2 := (E.fr f1).fr f2
  have ra := (o1.later E f1 f2).dat E ea
  have rb := o2.dat (E.fr f1) eb
  refine h1 c.t (c.av n2 A) H2 v w a b _ _ (fun b hb => (E2.there hb).imp fun o h => h.1) ra rb ek fun u H3 s o => ?_
  cases o
  refine ⟨kb, rfl, ?_⟩
  have f3 : Fr c A n2 n2 H2 H3 := Fr.same E2.g s
  cases kb with
  | false => exact k _ _ n2 H3 hq ((f1.trans f2).trans f3) (Rp.bl false)
  | true =>
    refine ⟨c, A, n2, ρ, _, E2.fr f3, hq, fun w' r n3 H4 ⟨cc, ec, z, ez, h5⟩ f4 o4 => ?_⟩
    have E4 := (E2.fr f3).fr f4
    refine h2 c.t (c.av n3 A) H4 w w' b cc z Q (fun b hb => (E4.there hb).imp fun o h => h.1) ((rb.ex f3.msk).ex f4.msk) (o4.dat (E2.fr f3) ec) ez fun u H5 s5 o5 => ?_
    have f5 := FrV.same (H' := H5) E4.g s5 o5
    exact k u z n3 H5 h5 (((f1.trans f2).trans f3).trans (f4.trans f5)) (VOk.mono E (((f1.trans f2).trans f3).trans f4) o5)
theorem pdChain {X : Cx} {o o' : CmpOp} {r r' : R2} {op op' : PyData → PyData → Option DV} {a b e : Expr} {f g h : DF} {pos : Pos} (h1 : R2D r op) (h2 : R2D r' op') (ho : OpR X (compareOp o) r) (ho' : OpR X (compareOp o') r') (ha : PE X a (tD f)) (hb : PE X b (tD g)) (hc : PE X e (tD h)) (hm : lastMarks [o, o'] [b, e] = false := by with_unfolding_all rfl) :
    PE X (.Compare a [o, o'] [b, e] pos) (tD (dChain op op' f g h)) := (pe_chain ho ho' ha hb hc hm).imp (chain_le h1 h2)
theorem ptChain {X : Cx} {o o' : CmpOp} {r r' : R2} {op op' : PyData → PyData → Option DV} {a b e : Expr} {f g h : DF} {pos : Pos} (h1 : R2D r op) (h2 : R2D r' op') (ho : OpR X (compareOp o) r) (ho' : OpR X (compareOp o') r') (ha : PE X a (tD f)) (hb : PE X b (tD g)) (hc : PE X e (tD h)) (hm : lastMarks [o, o'] [b, e] = false := by with_unfolding_all rfl) :
    PT X (.Compare a [o, o'] [b, e] pos) (tDT (dTest (dChain op op' f g h))) := (pt_chain ho ho' ha hb hc hm).imp fun σ H Q q => test_le (chain_le h1 h2) σ H Q q
/-- slices -/
abbrev DO := List DV → Fam.S → (Option Int → Fam.S → Prop) → Prop
def tDO (f : DO) : TO := fun σ H Q => ∃ (c : EC) (A : Nat → Option Addr) (n : Fam.S) (ρ : List DV) (Q' : Option Int → Fam.S → Prop), EnvA c A n σ H ρ ∧ f ρ n Q' ∧ ∀ o n' H', Q' o n' → Fr c A n n' H H' → Q o H'
theorem _root_.L2.PO.imp {X : Cx} {e : Option Expr} {t t' : TO} (h : PO X e t) (i : ∀ σ H Q, t' σ H Q → t σ H Q) : PO X e t' := ⟨fun pins s σ H Q I q => h.run pins s σ H Q I (i σ H Q q)⟩
def dONone : DO := fun _ n Q => Q none n
def dOSome (f : DF) : DO := fun ρ n Q => f ρ n fun r n1 => ∃ i, r = .d (.int i) ∧ Q (some i) n1
theorem poNone {X : Cx} : PO X none (tDO dONone) := po_none.imp fun σ H Q ⟨c, A, n, ρ, Q', E, hf, k⟩ => k none n H hf (.refl E.g)
theorem poSome {X : Cx} {e : Expr} {f : DF} (h : PE X e (tD f)) : PO X (some e) (tDO (dOSome f)) := (po_some h).imp fun σ H Q ⟨c, A, n, ρ, Q', E, hf, k⟩ =>
  ⟨c, A, n, ρ, _, E, hf, fun v r n1 H1 ⟨i, e, hq⟩ f1 o1 => by
    subst e
    cases o1
    exact ⟨i, rfl, k _ n1 H1 hq f1.fr⟩⟩
def cutD (ds : List PyData) (lo hi : Option Int) : List PyData := (ds.drop (HT.sIx ds.length 0 lo)).take (HT.sIx ds.length ds.length hi - HT.sIx ds.length 0 lo)
theorem RpA.cut {M : Hp} {vs : List V} {ds : List PyData} (r : RpA M vs ds) (lo hi : Option Int) : RpA M (cutV vs lo hi) (cutD ds lo hi) := by
  unfold cutV cutD
  rw [r.length]
  exact (r.drop _).take _
def SlD (r : V → Option Int → Option Int → Hp → VK → Prop) (op : PyData → Option Int → Option Int → Option DV) : Prop := ∀ (t : V) (B : Addr → Prop) (H : Hp) (v : V) (a : PyData) (lo hi : Option Int) (z : DV) (Q : VK), (∀ b, B b → ∃ o, H b = some o) → Rp (msk B H) v a → op a lo hi = some z →
  (∀ u H', (∀ p o, H p = some o → H' p = some o) → VOk t B H u H' z → Q u H') → r v lo hi H Q
def dSl (op : PyData → Option Int → Option Int → Option DV) (f : DF) (g h : DO) : DF := fun ρ n Q => f ρ n fun x n1 => g ρ n1 fun lo n2 => h ρ n2 fun hi n3 => ∃ a, x.dat = some a ∧ ∃ z, op a lo hi = some z ∧ Q z n3
theorem pdSl {X : Cx} {r : V → Option Int → Option Int → Hp → VK → Prop} {op : PyData → Option Int → Option Int → Option DV} {e : Expr} {lo hi : Option Expr} {f : DF} {g h : DO} {p2 pos : Pos} (hd : SlD r op) (hr : SlR X r) (he : PE X e (tD f)) (hl : PO X lo (tDO g)) (hu : PO X hi (tDO h)) : PE X (.Subscript e (.Slice lo hi none p2) pos) (tD (dSl op f g h)) := (pe_slice hr he hl hu).imp fun σ H Q ⟨c, A, n, ρ, Q', E, hf, k⟩ => by
  refine ⟨c, A, n, ρ, _, E, hf, fun v x n1 H1 h1 f1 o1 => ⟨c, A, n1, ρ, _, E.fr f1, h1, fun lo n2 H2 h2 f2 => ⟨c, A, n2, ρ, _, (E.fr f1).fr f2, h2, fun hi n3 H3 ⟨a, ea, z, ez, h3⟩ f3 => ?_⟩⟩⟩
  have E3 := ((E.fr f1).fr f2).fr f3
  refine hd c.t (c.av n3 A) H3 v a lo hi z Q (fun b hb => (E3.there hb).imp fun o h => h.1) (((o1.later E f1 f2).later E (f1.trans f2) f3).dat E ea) ez fun u H' s o => ?_
  exact k u z n3 H' h3 (((f1.trans f2).trans f3).trans (FrV.same E3.g s o)) (VOk.mono E ((f1.trans f2).trans f3) o)
def opSlL : PyData → Option Int → Option Int → Option DV
  | .list ds, lo, hi => some (.own (cutD ds lo hi))
  | _, _, _ => none
def opSlT : PyData → Option Int → Option Int → Option DV
  | .tuple ds, lo, hi => some (.d (.tuple (cutD ds lo hi)))
  | _, _, _ => none
theorem slLD {K : PySem.W.Frag} : SlD (rSlL K) opSlL := by
  intro t B H v a lo hi z Q hB ra e k
  cases ra <;> cases e
  rename_i h1 h2
  exact ⟨_, _, rfl, SqL.of (msk_some h1).2, fun p hp => k _ _ (same_new hp) (new_own hB hp (h2.cut lo hi))⟩
theorem slTD {K : PySem.W.Frag} : SlD (rSlA K) opSlT := by
  intro t B H v a lo hi z Q hB ra e k
  cases ra with
  | @tup a xs ds h1 h2 =>
    cases e
    refine ⟨_, _, rfl, SqT.of (msk_some h1).2, fun hw => k _ H (fun _ _ h => h) ?_, fun _ p hp => k _ _ (same_new hp) (new_tup hB hp (h2.cut lo hi))⟩
    rw [h2.length] at hw
    have e : cutD ds lo hi = ds := by
      unfold cutD
      rw [hw.1, hw.2, List.drop_zero, Nat.sub_zero, List.take_length]
    rw [e]
    exact Rp.tup h1 h2
  | _ => cases e
def opCatT : PyData → PyData → Option DV
  | .tuple a, .tuple b => if a.length + b.length ≤ 200000 then some (.d (.tuple (a ++ b))) else none
  | _, _ => none
theorem r2CatT {K : PySem.W.Frag} : R2D (rCatA K) opCatT := by
  intro t B H v w a b z Q hB ra rb e k
  cases ra <;> cases rb <;> simp only [opCatT, reduceCtorEq] at e
  rename_i h1 h2 _ _ _ h3 h4
  split at e
  · rename_i hz
    cases e
    refine ⟨_, _, _, _, rfl, rfl, SqT.of (msk_some h1).2, SqT.of (msk_some h3).2, ?_, fun e => k _ H (fun _ _ h => h) ?_, fun _ e => k _ H (fun _ _ h => h) ?_, fun _ _ p hp => k _ _ (same_new hp) (new_tup hB hp (h2.app h4))⟩
    · rw [h2.length, h4.length]
      exact Nat.le_trans hz (by decide)
    · subst e
      cases h2
      exact Rp.tup h3 h4
    · subst e
      cases h4
      rw [List.append_nil]
      exact Rp.tup h1 h2
  · cases e
/-- x in (..) of data -/
def opInT (neg : Bool) : PyData → PyData → Option DV := fun a b => match b with
  | .tuple ds => if SeqAt.shaped a = true ∧ SeqAt.shaped (.tuple ds) = true then some (.d (.bool (if neg then !ds.any fun z => PyData.eqv z a else ds.any fun z => PyData.eqv z a))) else none
  | _ => none
def rInT (K : PySem.W.Frag) : R2 := fun x y H Q => ∃ d ds, Dp K H x d ∧ Dp K H y (.tuple ds) ∧ SeqAt.shaped d = true ∧ SeqAt.shaped (.tuple ds) = true ∧ Q (.bl (ds.any fun z => PyData.eqv z d)) H
theorem op_inT {X : Cx} (hu : X.A.units + 65 < cLine) : OpR X (PySem.compareOp .In) (rInT X.K) := by
  intro pins s σ H x y v u Q I rx ry h
  obtain ⟨d, ds, hd, he, sd, se, q⟩ := h
  obtain ⟨as, r1⟩ := Dp.reads I d x v hd rx
  obtain ⟨bs, r2⟩ := Dp.reads I (.tuple ds) y u he ry
  exact SeqAt.in_tuple_reads r2 r1 (SeqAt.canLay_of_shaped se) (SeqAt.canLay_of_shaped sd) (PyProof.Rows.room_in_shaped sd hu) ⟨.bl _, H, I, rfl, q⟩
theorem r2InT {K : PySem.W.Frag} : R2D (rInT K) (opInT false) := by
  intro t B H v w a b z Q hB ra rb e k
  cases rb <;> simp only [opInT, reduceCtorEq] at e
  split at e
  · rename_i h1 h2 h
    cases e
    exact ⟨a, _, up_msk ra h.1, (Rp.tup h1 h2 |> fun r => up_msk r h.2), h.1, h.2, k _ H (fun _ _ h => h) (Rp.bl _)⟩
  · cases e
/-- max, min of a list of ints -/
def maxI : List Int → Option Int
  | [] => none
  | i :: is => some (is.foldl max i)
def minI : List Int → Option Int
  | [] => none
  | i :: is => some (is.foldl min i)
theorem foldl_max (is : List Int) : ∀ i : Int, (is.foldl max i ∈ i :: is) ∧ ∀ j ∈ i :: is, j ≤ is.foldl max i := by
  induction is with
  | nil => intro i; exact ⟨List.mem_cons_self, fun j hj => by rw [List.mem_singleton.mp hj]; exact Int.le_refl _⟩
  | cons a is ih =>
    intro i
    obtain ⟨h1, h2⟩ := ih (max i a)
    refine ⟨?_, fun j hj => ?_⟩
    · rcases List.mem_cons.mp h1 with e | e
      · show is.foldl max (max i a) ∈ _
        rw [e]
        by_cases h : i ≤ a
        · rw [show max i a = a by omega]; exact List.mem_cons_of_mem _ List.mem_cons_self
        · rw [show max i a = i by omega]; exact List.mem_cons_self
      · exact List.mem_cons_of_mem _ (List.mem_cons_of_mem _ e)
    · have hm := h2 (max i a) List.mem_cons_self
      show j ≤ is.foldl max (max i a)
      rcases List.mem_cons.mp hj with e | e
      · omega
      · rcases List.mem_cons.mp e with e | e
        · omega
        · exact h2 j (List.mem_cons_of_mem _ e)
theorem foldl_min (is : List Int) : ∀ i : Int, (is.foldl min i ∈ i :: is) ∧ ∀ j ∈ i :: is, is.foldl min i ≤ j := by
  induction is with
  | nil => intro i; exact ⟨List.mem_cons_self, fun j hj => by rw [List.mem_singleton.mp hj]; exact Int.le_refl _⟩
  | cons a is ih =>
    intro i
    obtain ⟨h1, h2⟩ := ih (min i a)
    refine ⟨?_, fun j hj => ?_⟩
    · rcases List.mem_cons.mp h1 with e | e
      · show is.foldl min (min i a) ∈ _
        rw [e]
        by_cases h : i ≤ a
        · rw [show min i a = i by omega]; exact List.mem_cons_self
        · rw [show min i a = a by omega]; exact List.mem_cons_of_mem _ List.mem_cons_self
      · exact List.mem_cons_of_mem _ (List.mem_cons_of_mem _ e)
    · have hm := h2 (min i a) List.mem_cons_self
      show is.foldl min (min i a) ≤ j
      rcases List.mem_cons.mp hj with e | e
      · omega
      · rcases List.mem_cons.mp e with e | e
        · omega
        · exact h2 j (List.mem_cons_of_mem _ e)
def bMaxL : List PyData → Option DV
  | [.list ds] => (intsOf ds).bind fun ns => (maxI ns).map fun m => .d (.int m)
  | _ => none
def bMinL : List PyData → Option DV
  | [.list ds] => (intsOf ds).bind fun ns => (minI ns).map fun m => .d (.int m)
  | _ => none
theorem rsMax {K : PySem.W.Frag} : RsD (rMax K) bMaxL := by
  intro t B H vs as z Q hB r e k
  cases r with
  | nil => cases e
  | cons r t =>
    cases t with
    | cons _ _ => cases r <;> cases e
    | nil =>
      cases r <;> simp only [bMaxL, reduceCtorEq] at e
      rename_i a xs ds h1 h2
      cases q : intsOf ds with
      | none => rw [q] at e; cases e
      | some ns =>
        rw [q] at e
        cases ns with
        | nil => cases e
        | cons i is =>
          cases e
          obtain ⟨m1, m2⟩ := foldl_max is i
          refine ⟨_, i :: is, rfl, ?_, Nat.succ_pos _, fun m hm hm2 => ?_⟩
          · rw [← ints_of h2 q]
            exact SqL.of (msk_some h1).2
          · have : m = is.foldl max i := Int.le_antisymm (m2 m hm) (hm2 _ m1)
            rw [this]
            exact k _ H (fun _ _ h => h) (Rp.int _)
theorem rsMin {K : PySem.W.Frag} : RsD (rMin K) bMinL := by
  intro t B H vs as z Q hB r e k
  cases r with
  | nil => cases e
  | cons r t =>
    cases t with
    | cons _ _ => cases r <;> cases e
    | nil =>
      cases r <;> simp only [bMinL, reduceCtorEq] at e
      rename_i a xs ds h1 h2
      cases q : intsOf ds with
      | none => rw [q] at e; cases e
      | some ns =>
        rw [q] at e
        cases ns with
        | nil => cases e
        | cons i is =>
          cases e
          obtain ⟨m1, m2⟩ := foldl_min is i
          refine ⟨_, i :: is, rfl, ?_, Nat.succ_pos _, fun m hm hm2 => ?_⟩
          · rw [← ints_of h2 q]
            exact SqL.of (msk_some h1).2
          · have : m = is.foldl min i := Int.le_antisymm (hm2 _ m1) (m2 m hm)
            rw [this]
            exact k _ H (fun _ _ h => h) (Rp.int _)
theorem RpA.pairs {M : Hp} {vs : List V} {ds : List PyData} (r : RpA M vs ds) : ∃ ps : List (V × PyData), ps.map Prod.fst = vs ∧ ps.map Prod.snd = ds ∧ ∀ p ∈ ps, Rp M p.1 p.2 :=
  ⟨List.zip vs ds, List.map_fst_zip (by rw [r.length]; exact Nat.le_refl _), List.map_snd_zip (by rw [r.length]; exact Nat.le_refl _), r.zips⟩
theorem RpA.of_pairs {M : Hp} : ∀ {ps : List (V × PyData)}, (∀ p ∈ ps, Rp M p.1 p.2) → RpA M (ps.map Prod.fst) (ps.map Prod.snd)
  | [], _ => .nil
  | p :: ps, h => .cons (h p List.mem_cons_self) (RpA.of_pairs fun q hq => h q (List.mem_cons_of_mem _ hq))
/-- a row's price and rank -/
def rowK : PyData → Option (Int × Int)
  | .tuple [_, _, _, .int p, _, _, _, .int k] => some (p, k)
  | _ => none
def leK (neg : Bool) : PyData → PyData → Bool := fun a b => match rowK a, rowK b with
  | some p, some q => decide (key1 neg p.1 < key1 neg q.1 ∨ (key1 neg p.1 = key1 neg q.1 ∧ p.2 ≤ q.2))
  | _, _ => false
def dSortR (neg : Bool) (f : DF) : DF := fun ρ n Q => f ρ n fun r n1 => ∃ ds, r.dat = some (.list ds) ∧ (∀ d ∈ ds, (rowK d).isSome = true) ∧ Q (.own (ds.mergeSort (leK neg))) n1
theorem rowK_parts {M : Hp} {v : V} {d : PyData} {p k : Int} (r : Rp M v d) (e : rowK d = some (p, k)) : ∃ t ws, v = .ref t ∧ M t = some (.tup ws) ∧ ws.length = 8 ∧ ws[3]? = some (.int p) ∧ ws[7]? = some (.int k) := by
  unfold rowK at e
  split at e
  · cases e
    cases r with
    | tup h1 h2 =>
      cases h2 with
      | cons _ t => cases t with
        | cons _ t => cases t with
          | cons _ t => cases t with
            | cons a t => cases t with
              | cons _ t => cases t with
                | cons _ t => cases t with
                  | cons _ t => cases t with
                    | cons b t =>
                      cases t
                      cases a
                      cases b
                      exact ⟨_, _, rfl, h1, rfl, rfl, rfl⟩
  · cases e
/-- a row's price and rank, as the heap has them -/
def keyVI : Option V → Int
  | some (.int p) => p
  | _ => 0
def keyV (M : Hp) (v : V) : Int × Int := match v with
  | .ref t => match M t with
    | some (.tup ws) => (keyVI ws[3]?, keyVI ws[7]?)
    | _ => (0, 0)
  | _ => (0, 0)
theorem keyV_eq {M : Hp} {v : V} {d : PyData} {p k : Int} (r : Rp M v d) (e : rowK d = some (p, k)) : keyV M v = (p, k) := by
  obtain ⟨t, ws, rfl, h1, _, h3, h4⟩ := rowK_parts r e
  unfold keyV
  simp only [h1, h3, h4, keyVI]
theorem sort_own {c : EC} {A : Nat → Option Addr} {n : Fam.S} {σ : L2.St} {H H2 : Hp} {ρ : List DV} (E : EnvA c A n σ H ρ) {ps : List (V × PyData)} {p : Addr} {leV : V → V → Bool} {leP : PyData → PyData → Bool} (ra : ∀ q ∈ ps, Rp (msk (c.av n A) H) q.1 q.2)
    (hle : ∀ a ∈ ps, ∀ b ∈ ps, leP a.2 b.2 = leV a.1 b.1) (eN : LamX.ExtN H H2) (hT : LamX.Tabs Tabz.T H2) (hp : H2 p = none) :
    FrV c A n n H (upd H2 p (.lst ((ps.map Prod.fst).mergeSort leV))) (.ref p) (.own ((ps.map Prod.snd).mergeSort leP)) ∧ VOk c.t (c.av n A) H (.ref p) (upd H2 p (.lst ((ps.map Prod.fst).mergeSort leV))) (.own ((ps.map Prod.snd).mergeSort leP)) := by
  have fr0 : ∀ o, H p = some o → ∃ xs, o = HO.tbl xs := fun o e => by
    apply Classical.byContradiction
    intro no
    have := eN p o e fun ps z => no ⟨ps, z⟩
    rw [hp] at this
    cases this
  have xt : Xt (msk (c.av n A) H) (msk (fun b => c.av n A b ∨ V.ref p = .ref b) (upd H2 p (.lst ((ps.map Prod.fst).mergeSort leV)))) := fun b o q e => by
    obtain ⟨g1, g2⟩ := msk_some e
    have e2 := eN b o g2 q
    have nb : b ≠ p := fun z => by rw [z, hp] at e2; cases e2
    rw [msk_out fun z => z.elim g1 (fun z => nb (by cases z; rfl)), upd_ne nb]
    exact e2
  refine ⟨⟨fun b o q e => ?_, Fam.mv E.g.1 xt fun a o e h => ?_, hT.ext (same_new hp)⟩, p, _, rfl, ⟨fr0, E.apart fr0⟩, upd_same, ?_⟩
  · have e2 := same_new (o := .lst ((ps.map Prod.fst).mergeSort leV)) hp b o (eN b o e q)
    exact ⟨fun p => ⟨e2, p⟩, o, e2, q⟩
  · obtain ⟨o', hy, hq⟩ := Fam.ty E.g.1 e
    rw [hy] at h
    cases h
    exact same_new hp _ _ (eN a _ hy hq)
  · have e1 : (ps.map Prod.fst).mergeSort leV = (ps.mergeSort fun a b => leP a.2 b.2).map Prod.fst := (List.map_mergeSort (fun a ha b hb => hle a ha b hb)).symm
    have e2 : (ps.map Prod.snd).mergeSort leP = (ps.mergeSort fun a b => leP a.2 b.2).map Prod.snd := (List.map_mergeSort (f := Prod.snd) (fun a ha b hb => rfl)).symm
    rw [e1] at xt ⊢
    rw [e2]
    refine RpA.of_pairs fun q hq => ?_
    refine Rp.ex (Rp.ex (ra q (List.mem_mergeSort.mp hq)) xt) fun b o _ e => ?_
    obtain ⟨g1, g2⟩ := msk_some e
    rw [msk_out fun z => g1 (z.imp id fun z => by rw [z])]
    exact g2
theorem pdSortR {X : Cx} {e : Expr} {neg : Bool} {f : DF} (h : PE X e (tSortLam X.K Tabz.T neg (tD f))) : PE X e (tD (dSortR neg f)) := h.imp fun σ H Q ⟨c, A, n, ρ, Q', E, hf, k⟩ => by
  refine ⟨c, A, n, ρ, _, E, hf, fun v r n1 H1 ⟨ds, e1, ok, h1⟩ f1 o1 => ?_⟩
  have rp := o1.dat E e1
  have E1 := E.fr f1
  cases rp with
  | @lst a xs _ g1 g2 =>
    obtain ⟨ps, p1, p2, p3⟩ := g2.pairs
    have okp : ∀ q ∈ ps, ∃ pk, rowK q.2 = some pk := fun q hq => Option.isSome_iff_exists.mp (ok _ (by rw [← p2]; exact List.mem_map.mpr ⟨q, hq, rfl⟩))
    refine ⟨a, xs, keyV (msk (c.av n1 A) H1), rfl, SqL.of (msk_some g1).2, fun y hy => ?_, E1.g.2, fun H2 p eN hT hp => ?_⟩
    · rw [← p1] at hy
      obtain ⟨q, hq, rfl⟩ := List.mem_map.mp hy
      obtain ⟨pk, e2⟩ := okp q hq
      obtain ⟨t, ws, e3, e4, e5, e6, e7⟩ := rowK_parts (p3 q hq) e2
      rw [keyV_eq (p3 q hq) e2]
      exact ⟨t, ws, e3, SqT.of (msk_some e4).2, e5, e6, e7⟩
    · obtain ⟨fr, vo⟩ := sort_own E1 (leP := leK neg) (leV := rowLe neg (keyV (msk (c.av n1 A) H1))) p3 (fun a ha b hb => by
        obtain ⟨pa, ea⟩ := okp a ha
        obtain ⟨pb, eb⟩ := okp b hb
        unfold rowLe leK
        simp only [ea, eb, keyV_eq (p3 a ha) ea, keyV_eq (p3 b hb) eb]) eN hT hp
      rw [p1, p2] at fr vo
      exact k _ _ n1 _ h1 (f1.trans fr) (VOk.mono E f1 vo)
/-- sorted(xs, key=lambda row: row[7]) -/
def rowR : PyData → Option Int := fun d => (rowK d).map Prod.snd
def leR : PyData → PyData → Bool := fun a b => match rowK a, rowK b with
  | some p, some q => decide (p.2 ≤ q.2)
  | _, _ => false
theorem lam_rank {prog : Program} {w : World} {A : Around} {s : Shared} {q : Str} {f c' t : Addr} {pm ctv : Value} {items : Array Value} {j : Int} {tj : Tok} {p0 p5 p6 p7 : Pos} (hd : A.depth < recursionLimit) (hlim : s.heap.NoLimit)
    (hf : s.heap.get? f = some (PySem.W.kla_obj "<lambda>" q (lamArgs p0) (rowAt 7 p5 p6 p7) lamScope [] pm c' ctv)) (hrec : s.heap.CodeRec (.ref c') q) (ht : PyProof.Rows.IsTup s.heap t items) (hz : items.size = 8)
    (h7 : items[7]? = some (.int j tj)) :
    wpAny (model prog w) A (call (.ref f) [.ref t]) (PySem.W.KeyPure (.int j) s) (fun _ _ => False) s := by
  refine wpAny_call (PySem.W.kla_callFunE hd hf rfl rfl rfl rfl hrec ?_)
  have hb : bindArgs (PySem.W.kla_fn "<lambda>" q (lamArgs p0) (rowAt 7 p5 p6 p7) lamScope [] pm (.ref c') ctv) ⟨[.ref t], []⟩ = pure [(("row" : Str), Value.ref t)] := by first | rfl | with_unfolding_all rfl | kernel_rfl
  rw [hb]
  refine wpAny_pure (wpAny_newFunctionEnv (scope := lamScope) (by decide +kernel) (fun y hy => by rw [List.mem_singleton.mp hy]; rfl) (fun h₁ hns hsb => ⟨hlim.fresh _ hsb, ?_⟩) rfl)
  show codeAny _ _ (.expr (rowAt 7 p5 p6 p7) (PySem.W.envX q lamScope s.heap.objs.size f (.ref c') [])) _ _
  have kp : ∀ b o, s.heap.get? b = some o → h₁.get? b = some o := fun b o e => hsb.extBut b o (Nat.ne_of_lt (Heap.lt_size e)) (Heap.get?_push_of_some _ e)
  refine PySem.W.kla_codeExpr ?_
  refine rowAt_ok (items := items) (j := 7) hns rfl (ht.keeps kp) (by decide) (by decide) (by rw [hz]; rfl) h7 fun tk => ?_
  exact ⟨_, _, rfl, kp, .int _ _⟩
def tSortRk (K : PySem.W.Frag) (T : List (Addr × Str)) (te : TE) : TE := fun σ H Q => te σ H fun x H1 => ∃ (a : Addr) (xs : List V) (kk : V → Int), x = .ref a ∧ SqL K H1 a xs ∧
  (∀ y ∈ xs, ∃ t ws, y = .ref t ∧ SqT K H1 t ws ∧ ws.length = 8 ∧ ws[7]? = some (.int (kk y))) ∧ LamX.Tabs T H1 ∧
  ∀ H2 p, LamX.ExtN H1 H2 → LamX.Tabs T H2 → H2 p = none → Q (.ref p) (upd H2 p (.lst (xs.mergeSort fun a b => decide (kk a ≤ kk b))))
theorem pe_sortRk {X : Cx} {T : List (Addr × Str)} {c P : Addr} {e : Expr} {te : TE} {p pos lpos kpos p0 p5 p6 p7 : Pos} (hg : Gl X "sorted") (hm : X.mg "sorted" = none) (TB : LamX.TabB X.base X.mg c P) (hcode : X.env.code = .ref c)
    (hmT : (P, X.env.qual ++ "<lambda>") ∈ T) (hu : ∀ p ∈ T, p.1 = P → p.2 = X.env.qual ++ "<lambda>") (hr : Room 1 X.A) (he : PE X e te)
    (hst : backTo pos (starEach [e] X.env) = (false, eval e X.env) :: backTo pos (starEach [] X.env) := by rfl) (hpl : (backTo pos (starEach [e] X.env)).any (·.1) = false := by rfl) :
    PE X (.Call (.Name "sorted" p) [e] [⟨some "key", .Lambda (lamArgs p0) (rowAt 7 p5 p6 p7) lamScope lpos, kpos⟩] pos) (tSortRk X.K T te) := by
  refine ⟨fun pins s σ H Q I h => ?_⟩
  refine wpAny_Call_Name_kw (ld_blt I hg hm (by decide +kernel : bootBuiltins "sorted" = some (.builtin "sorted")) ?_ (by decide) (by decide))
  refine PyProof.Rows.callWith_kw (kws := [⟨some "key", .Lambda (lamArgs p0) (rowAt 7 p5 p6 p7) lamScope lpos, kpos⟩]) ?_ hst hpl rfl rfl
  rw [hst]
  refine Calls.spliced_cons (thn (he.run pins s σ H _ I h) fun u s1 ⟨x, H1, I1, r1, q1⟩ => Calls.spliced_nil ?_)
  obtain ⟨a, xs, kk, rfl, hs, hk, hT, q⟩ := q1
  obtain rfl : u = Value.ref a := r1
  show wpAny _ _ (evalAll ((do let v ← eval (.Lambda (lamArgs p0) (rowAt 7 p5 p6 p7) lamScope lpos) X.env; standAt pos; pure v) :: [])) _ _ s1
  refine wpAny_evalAll_cons (wpAny_bind (LamX.lam_make2 I1 TB hcode hmT hu hT rfl (fun y hy e => by rw [List.mem_singleton.mp hy] at e; cases e) fun f c' pm ctv H2 s2 I2 eN T2 hf hfn hfr hco => wpAny_bind (wpAny_standAt (wpAny_pure ?_))))
  refine wpAny_evalAll_nil ?_
  show wpAny _ _ (call (.builtin "sorted") [.ref a] [("key", .ref f)]) _ _ s2
  obtain ⟨its, rv, hl, hz⟩ := I2.list (extN_L eN hs)
  have hun := hr.un
  have hdp := hr.dp
  have hrec : s2.heap.CodeRec (.ref c') (X.env.qual ++ "<lambda>") := by
    obtain ⟨⟨oc, vs, t, h1, h2, h3⟩, _⟩ := I2.hok c' _ hco
    exact ⟨c', oc, vs, t, rfl, h1, h2, h3⟩
  refine PySem.W.sorted_key_data (β := V) (R := fun v x => RelV x v) (b := false) (bs := xs) (vs := its) (fun y => .int (kk y)) hl.isList (each_of rv) ?_ ?_ hz ?_ (PyProof.Rows.ksk_s1 _ _) (fun _ => PyProof.Rows.ksk_l1 _ _) (fun x => PyProof.Rows.ksk_t1 f x) ?_ ?_
  · intro d hd d' hd'
    obtain ⟨y, _, rfl⟩ := List.mem_map.mp hd
    obtain ⟨y', _, rfl⟩ := List.mem_map.mp hd'
    rfl
  · refine .inr fun d hd => ?_
    obtain ⟨y, _, rfl⟩ := List.mem_map.mp hd
    exact ⟨(fun z => by cases z), fun xs z => by cases z⟩
  · intro y hy
    have e : (PyData.int (kk y)).depth ≤ 10 := by
      simp [PyData.depth]
    omega
  · intro v y hv hy h tk keep
    obtain ⟨t, ws, rfl, ht, hlen, h7⟩ := hk y hy
    obtain rfl : v = Value.ref t := hv
    obtain ⟨its2, rv2, pl, hz2⟩ := I2.tuple (extN_T eN ht)
    obtain ⟨u7, e7, ru7⟩ := rv2.get h7
    obtain ⟨t7, rfl⟩ := ru7
    exact lam_rank (s := { s2 with heap := h, toks := tk }) (items := its2.toArray) (by show X.A.depth < _; omega) (I2.nolimit.keeps keep) (keep _ _ hf) (hrec.keeps keep) (pl.keeps keep) (by rw [List.size_toArray, ← rv2.length, hlen]) (by simpa using e7)
  · intro out cc h' tk keep fresh hget hlen each
    have e2 : PySem.W.dataLe false (fun y : V => PyData.int (kk y)) = fun a b => decide (kk a ≤ kk b) := PySem.W.dataLe_int kk
    rw [e2] at each
    refine ⟨.ref _, upd H2 (s2.heap.objs.size + 1) (.lst (xs.mergeSort fun a b => decide (kk a ≤ kk b))), I2.laid (t' := tk) keep (Nat.le_succ _) ⟨?_, out, cc, vals_of each, hget⟩, rfl, q H2 _ eN T2 (I2.hok.fresh (Nat.le_succ _))⟩
    rw [List.length_mergeSort]
    exact hz
def dSort7 (f : DF) : DF := fun ρ n Q => f ρ n fun r n1 => ∃ ds, r.dat = some (.list ds) ∧ (∀ d ∈ ds, (rowK d).isSome = true) ∧ Q (.own (ds.mergeSort leR)) n1
theorem pdSort7 {X : Cx} {e : Expr} {f : DF} (h : PE X e (tSortRk X.K Tabz.T (tD f))) : PE X e (tD (dSort7 f)) := h.imp fun σ H Q ⟨c, A, n, ρ, Q', E, hf, k⟩ => by
  refine ⟨c, A, n, ρ, _, E, hf, fun v r n1 H1 ⟨ds, e1, ok, h1⟩ f1 o1 => ?_⟩
  have rp := o1.dat E e1
  have E1 := E.fr f1
  cases rp with
  | @lst a xs _ g1 g2 =>
    obtain ⟨ps, p1, p2, p3⟩ := g2.pairs
    have okp : ∀ q ∈ ps, ∃ pk, rowK q.2 = some pk := fun q hq => Option.isSome_iff_exists.mp (ok _ (by rw [← p2]; exact List.mem_map.mpr ⟨q, hq, rfl⟩))
    refine ⟨a, xs, fun y => (keyV (msk (c.av n1 A) H1) y).2, rfl, SqL.of (msk_some g1).2, fun y hy => ?_, E1.g.2, fun H2 p eN hT hp => ?_⟩
    · rw [← p1] at hy
      obtain ⟨q, hq, rfl⟩ := List.mem_map.mp hy
      obtain ⟨pk, e2⟩ := okp q hq
      obtain ⟨t, ws, e3, e4, e5, e6, e7⟩ := rowK_parts (p3 q hq) e2
      show ∃ t ws, _ ∧ _ ∧ _ ∧ _ = some (V.int (keyV (msk (c.av n1 A) H1) q.1).2)
      rw [keyV_eq (p3 q hq) e2]
      exact ⟨t, ws, e3, SqT.of (msk_some e4).2, e5, e7⟩
    · obtain ⟨fr, vo⟩ := sort_own E1 (leP := leR) (leV := fun a b => decide ((keyV (msk (c.av n1 A) H1) a).2 ≤ (keyV (msk (c.av n1 A) H1) b).2)) p3 (fun a ha b hb => by
        obtain ⟨pa, ea⟩ := okp a ha
        obtain ⟨pb, eb⟩ := okp b hb
        unfold leR
        simp only [ea, eb, keyV_eq (p3 a ha) ea, keyV_eq (p3 b hb) eb]) eN hT hp
      rw [p1, p2] at fr vo
      exact k _ _ n1 _ h1 (f1.trans fr) (VOk.mono E f1 vo)
/-- f(a, k = b): the values in the def's order -/
def tDK (f : DA) : TA := tDA f
theorem _root_.L2.PK.imp {X : Cx} {kws : List Keyword} {t t' : TA} (h : PK X kws t) (i : ∀ σ H Q, t' σ H Q → t σ H Q) : PK X kws t' := ⟨fun pos pins s σ H Q I q => h.run pos pins s σ H Q I (i σ H Q q)⟩
theorem pkNil {X : Cx} : PK X [] (tDA dNil) := pk_nil.imp fun σ H Q ⟨c, A, n, ρ, Q', E, hf, k⟩ => k [] [] n H hf (.refl E.g) .nil
theorem pkCons {X : Cx} {nm : Option Str} {e : Expr} {kws : List Keyword} {kpos : Pos} {f : DF} {g : DA} (ha : PE X e (tD f)) (hr : PK X kws (tDA g)) : PK X (⟨nm, e, kpos⟩ :: kws) (tDA (dCons f g)) := (pk_cons ha hr).imp fun σ H Q ⟨c, A, n, ρ, Q', E, hf, k⟩ => by
  refine ⟨c, A, n, ρ, _, E, hf, fun v x n1 H1 hg f1 o1 => ⟨c, A, n1, ρ, _, E.fr f1, hg, fun vs rs n2 H2 hq f2 o2 => ?_⟩⟩
  exact k (v :: vs) _ n2 H2 hq (f1.trans f2) (.cons (o1.later E f1 f2).cold (cold_cold _) (o2.mono E f1))
theorem VsOk.later {c : EC} {A : Nat → Option Addr} {n m m' : Fam.S} {σ : L2.St} {H H1 H2 : Hp} {ρ : List DV} (E : EnvA c A n σ H ρ) {w w' : V} {r r' : DV} (f : FrV c A n m H H1 w r) (f' : FrV c A m m' H1 H2 w' r') : ∀ {vs : List V} {rs : List DV}, VsOk c.t (c.av m A) H H1 vs rs → VsOk c.t (c.av m' A) H H2 vs rs
  | _, _, .nil => .nil
  | _, _, .cons h ec t => .cons (h.later E f f') ec (VsOk.later E f f' t)
/-- how keywords lie: g puts the positional ones and the told ones in the def's order, dflt among them -/
def dCallK (m : DM) (gD : List DV → List DV → List DV) (g h : DA) : DF := fun ρ n Q => g ρ n fun rs n1 => h ρ n1 fun ks n2 => plainR (gD rs ks) ∧ m (gD rs ks) n2 Q
def KwOk (gV : List V → List V → List V) (gD : List DV → List DV → List DV) : Prop := ∀ (t : V) (B : Addr → Prop) (H H' : Hp) (vs zs : List V) (rs ks : List DV), VsOk t B H H' vs rs → VsOk t B H H' zs ks → VsOk t B H H' (gV vs zs) (gD rs ks)
theorem callK_le {m : DM} {gV : List V → List V → List V} {gD : List DV → List DV → List DV} {g h : DA} (hk : KwOk gV gD) (E0 : XK) (σ : L2.St) (H : Hp) (Q : VK) (q : tD (dCallK m gD g h) σ H Q) : tCallK (spD m) gV E0 (tDA g) (tDA h) σ H Q := by
  obtain ⟨c, A, n, ρ, Q', E, hf, k⟩ := q
  refine ⟨c, A, n, ρ, _, E, hf, fun vs rs n1 H1 h1 f1 o1 => ⟨c, A, n1, ρ, _, E.fr f1, h1, fun zs ks n2 H2 ⟨pl, hm⟩ f2 o2 => ?_⟩⟩
  have E2 := (E.fr f1).fr f2
  have oa : VsOk c.t (c.av n2 A) H H2 (gV vs zs) (gD rs ks) := hk _ _ _ _ _ _ _ _ (o1.later E f1 f2) (o2.mono E f1)
  refine ⟨E2.ec, n2, gD rs ks, Q', rfl, rfl, by rw [E2.ec_B]; exact E2.g, rfl, by rw [E2.ec_B]; exact VsOk.now (m := n2) E oa pl, hm, fun v r n' H' hq f3 o3 => ?_⟩
  rw [E2.ec_B] at o3
  exact k v r n' H' hq ((f1.trans f2).trans (E2.ec_fr f3)) (VOk.mono E (f1.trans f2) o3)
theorem pdCallK {X : Cx} {CX : CXT} {k : Nat} {f : Addr} {fd : FuncData} {ps ks : List Str} {gW : List Value → List Value → List Value} {gV : List V → List V → List V} {gD : List DV → List DV → List DV} {m : DM} {x : Str} {p pos : Pos} {e : Expr} {es : List Expr} {kws : List Keyword} {g h : DA} {E0 : XK} (hkw : KwOk gV gD) (F : FnOk X.prog X.w X.K X.mg X.base CX k f fd ps (spD m)) (hr : Room k X.A) (hg : Gl X x) (hm : X.mg x = some (.ref f)) (hk : PySem.W.keepIn X.K (.ref f) = true) (hb : KBinds X.K fd ps ks gW gV) (hx : Passes CX X E0)
    (ha : PA X (e :: es) (tDA g)) (hkws : PK X kws (tDA h)) (hall : (backToKw pos (keywordEach kws X.env)).all (·.1.isSome) = true := by rfl) (hks : (backToKw pos (keywordEach kws X.env)).filterMap (·.1) = ks := by rfl)
    (hdb : (x == ("__debug__" : Str)) = false := by decide) (he : starEach (e :: es) X.env = (false, eval e X.env) :: starEach es X.env := by rfl)
    (hpl : ((backTo pos (starEach (e :: es) X.env)).any (·.1) || (backToKw pos (keywordEach kws X.env)).any (·.1.isNone)) = false := by rfl) :
    PE X (.Call (.Name x p) (e :: es) kws pos) (tD (dCallK m gD g h)) := (pe_callK F hr hg hm hk hb hx ha hkws hall hks hdb he hpl).imp (callK_le hkw E0)
end

/-! ### defs that make lambdas -/
section
variable [Fam] [Tabz] {P : Program} {w : World} {K : PySem.W.Frag} {mg : Str → Option Value} {base : Heap}
/-- a def whose code object is known -/
def FunC (K : PySem.W.Frag) (x qual : Str) (st : Stmt) (f c : Addr) (fd : FuncData) : Prop := ∃ (oc : Value) (od : Option Addr) (kV doc pm : Value) (an : Option Addr) (ct : Value) (osl : Array (Option Value)),
  fd = PySem.W.fnOf x qual (defArgs st) (defBody st) (defScope st) .none kV doc pm an (.ref c) ct ∧ K.lookup f = some ⟨oc, od, .func fd, osl⟩ ∧ PySem.W.codeIn K (.ref c) qual = true
theorem FunC.ok {x qual : Str} {st : Stmt} {f c : Addr} {fd : FuncData} {N ps : List Str} {k : Nat} {sp : Sp} (F : FunC K x qual st f c fd) (S : FnScope N ps (defScope st)) (len : ∀ vs H Q E, sp vs H Q E → vs.length = ps.length)
    (hbody : ∀ (A : Around) (outer : List Env) (s : Shared) (H : Hp) (vs : List V) (Q : VK) (E : XK), Room k (A.deeper (PyProof.Rows.envOfC qual (defScope st) s.heap.objs.size f (.ref c))) → sp vs H Q E →
      ∃ t, PSs (cxOf CX0 P w K mg base N qual (defScope st) f (.ref c) A outer s H E).nox (defBody st) t ∧ t { nx := fun _ H' => Q .non H', rt := Q } (start N vs) H) : FnOk P w K mg base CX0 (k + 1) f fd ps sp := by
  obtain ⟨oc, od, kV, doc, pm, an, ct, osl, rfl, lk, hcd⟩ := F
  refine fn_of lk hcd S len fun A outer s H vs Q E hr hsp => ?_
  obtain ⟨t, h, q⟩ := hbody A outer s H vs Q E hr hsp
  exact ⟨t, h.nox, q⟩
theorem FunC.mk {x qual : Str} {st : Stmt} {f c : Addr} {oc : Value} {od an : Option Addr} {osl : Array (Option Value)} {kV doc pm ct : Value} (l : K.lookup f = some ⟨oc, od, .func (PySem.W.fnOf x qual (defArgs st) (defBody st) (defScope st) .none kV doc pm an (.ref c) ct), osl⟩)
    (h : PySem.W.codeIn K (.ref c) qual = true) : FunC K x qual st f c (PySem.W.fnOf x qual (defArgs st) (defBody st) (defScope st) .none kV doc pm an (.ref c) ct) := ⟨oc, od, kV, doc, pm, an, ct, osl, rfl, l, h⟩
theorem okDC {x qual : Str} {st : Stmt} {f cC : Addr} {fd : FuncData} {N ps : List Str} {k : Nat} {F : DS} {m : DM} (Fn : FunC K x qual st f cC fd) (S : FnScope N ps (defScope st)) (len : ∀ rs n Q, m rs n Q → plainR rs ∧ rs.length = ps.length)
    (body : ∀ (A : Around) (outer : List Env) (s : Shared) (H : Hp) (E : XK), Room k (A.deeper (PyProof.Rows.envOfC qual (defScope st) s.heap.objs.size f (.ref cC))) → PSs (cxOf CX0 P w K mg base N qual (defScope st) f (.ref cC) A outer s H E).nox (defBody st) (sD F))
    (data : ∀ rs n Q, m rs n Q → F { nx := fun _ n => Q (.d .none) n, rt := Q } (rs ++ List.replicate (N.length - rs.length) .un) n) : FnOk P w K mg base CX0 (k + 1) f fd ps (spD m) := by
  refine Fn.ok S (fun vs H Q E ⟨c, n, rs, Q', h0, hn, g, pn, ok, hm, _⟩ => ?_) (fun A outer s H vs Q E hr ⟨c, n, rs, Q', h0, hn, g, pn, ok, hm, kk⟩ => ⟨_, body A outer s H E hr, c, A0, n, _, { nx := fun _ n => Q' (.d .none) n, rt := Q' }, ?_, data rs n Q' hm, ?_⟩)
  · rw [ok.length]
    exact (len _ _ _ hm).2
  · subst h0
    subst hn
    have xt : Xt (msk (c.B c.n0) c.H0) (msk (c.av c.n0 A0) c.H0) := by
      rw [EC.B_A0]
      exact fun _ _ _ h => h
    refine ⟨.refl, c.Gx g xt, fun i a e => (by cases e), fun i a e => (by cases e), fun i j a e => (by cases e), fun i y e => ?_, ?_, fun p hp => (by rw [pn] at hp; cases hp), ⟨0, fun _ _ => rfl⟩, fun i a y e => (by cases e)⟩
    · by_cases hi : i < rs.length
      · rw [List.getElem?_append_left hi] at e
        obtain ⟨v, h1, h2, h3⟩ := ok.get e
        have hs : (L2.start N vs)[i]? = some (some v) := by
          unfold L2.start
          rw [List.getElem?_append_left (by rw [List.length_map, ok.length]; exact hi), List.getElem?_map, h1]
          rfl
        rw [hs]
        cases y with
        | un => exact h2.elim
        | raw v => exact h2.elim
        | tape => 
          refine ⟨?_, h2.2⟩
          rw [show v = c.t from h2.1]
        | d z => exact ⟨v, rfl, Rp.ex h2 xt⟩
        | own ds => cases h3
        | dic kvs => 
          rcases (len _ _ _ hm).1 _ (List.mem_of_getElem? e) with ⟨d, q⟩ | q <;> cases q
      · rw [List.getElem?_append_right (by omega), List.getElem?_replicate] at e
        split at e
        · cases e
          exact True.intro
        · cases e
    · unfold L2.start
      rw [List.length_append, List.length_append, List.length_map, List.length_replicate, List.length_replicate, ok.length]
  · subst h0
    subst hn
    refine ⟨fun A n σ H' ρ h e => ?_, fun v r n H' h fr o => kk v r n H' h fr o, fun A n σ H ρ h e => h.elim, fun A n σ H ρ h e => h.elim⟩
    exact kk .non _ n H' h e.fr0 Rp.non
end

/-! ### data readings: what laws have in common -/
section
variable [Fam] [Tabz]
inductive Cnd (p : Prop) : Prop
  | mk (a b : True) (h : p) : Cnd p
theorem cnd {p : Prop} (h : p) : Cnd p := ⟨True.intro, True.intro, h⟩
theorem Cnd.get {p : Prop} (c : Cnd p) : p := by
  obtain ⟨_, _, h⟩ := c
  exact h
theorem tapeR {rs : List DV} {ds : List PyData} (h : tapeOf rs = some ds) : plainR rs ∧ rs.length = ds.length + 1 := by
  cases rs with
  | nil => cases h
  | cons r rs =>
    cases r <;> first | cases h; done | skip
    have e' : plainOf rs = some ds := h
    obtain ⟨h1, h2⟩ := plainOf_R e'
    refine ⟨fun r hr => ?_, by show rs.length + 1 = _; rw [h2]⟩
    rcases List.mem_cons.mp hr with z | z
    · exact .inr z
    · exact h1 r z
theorem rp_strs {M : Hp} : ∀ ns : List Str, RpA M (ns.map V.str) (ns.map PyData.str)
  | [] => .nil
  | n :: ns => .cons (.str n) (rp_strs ns)
theorem ixMem {xs : List PyData} {i : Int} (h0 : 0 ≤ i) (h : i < xs.length) : ∃ d ∈ xs, opIxL (.list xs) (.int i) = some (.d d) := by
  obtain ⟨j, rfl⟩ := Int.eq_ofNat_of_zero_le h0
  have hj : j < xs.length := by omega
  refine ⟨xs[j], List.getElem_mem hj, ?_⟩
  show (atI xs (j : Int)).map DV.d = _
  rw [atI_nat (v := xs[j]) (List.getElem?_eq_getElem hj)]
  rfl
theorem ix4 {a b c d : PyData} {w : Int} (h0 : 0 ≤ w) (h : w < 4) : opIxL (.list [a, b, c, d]) (.int w) = some (.d a) ∨ opIxL (.list [a, b, c, d]) (.int w) = some (.d b) ∨ opIxL (.list [a, b, c, d]) (.int w) = some (.d c) ∨ opIxL (.list [a, b, c, d]) (.int w) = some (.d d) := by
  have e : w = 0 ∨ w = 1 ∨ w = 2 ∨ w = 3 := by omega
  rcases e with e | e | e | e <;> subst e
  · exact .inl rfl
  · exact .inr (.inl rfl)
  · exact .inr (.inr (.inl rfl))
  · exact .inr (.inr (.inr rfl))
theorem ix3 {a b c : PyData} {w : Int} (h0 : 0 ≤ w) (h : w < 3) : opIxL (.list [a, b, c]) (.int w) = some (.d a) ∨ opIxL (.list [a, b, c]) (.int w) = some (.d b) ∨ opIxL (.list [a, b, c]) (.int w) = some (.d c) := by
  have e : w = 0 ∨ w = 1 ∨ w = 2 := by omega
  rcases e with e | e | e <;> subst e
  · exact .inl rfl
  · exact .inr (.inl rfl)
  · exact .inr (.inr rfl)
theorem ix2 {a b : PyData} {w : Int} (h0 : 0 ≤ w) (h : w < 2) : opIxL (.list [a, b]) (.int w) = some (.d a) ∨ opIxL (.list [a, b]) (.int w) = some (.d b) := by
  have e : w = 0 ∨ w = 1 := by omega
  rcases e with e | e <;> subst e
  · exact .inl rfl
  · exact .inr rfl
theorem ixS {ns : List Str} {r : Int} (h0 : 0 ≤ r) (h : r < ns.length) : ∃ s ∈ ns, opIxL (.list (ns.map PyData.str)) (.int r) = some (.d (.str s)) := by
  obtain ⟨j, rfl⟩ := Int.eq_ofNat_of_zero_le h0
  have hj : j < ns.length := by omega
  refine ⟨ns[j], List.getElem_mem hj, ?_⟩
  show (atI (ns.map PyData.str) (j : Int)).map DV.d = _
  rw [atI_nat (v := .str ns[j]) (by rw [List.getElem?_map, List.getElem?_eq_getElem hj]; rfl)]
  rfl
def bInt : List PyData → Option DV
  | [.int i] => some (.d (.int i))
  | [.bool true] => some (.d (.int 1))
  | [.bool false] => some (.d (.int 0))
  | _ => none
theorem rsInt : RsD (fun xs H Q => (∃ i, xs = [.int i] ∧ Q (.int i) H) ∨ ∃ k, xs = [.bl k] ∧ Q (.int (if k then 1 else 0)) H) bInt := by
  intro t B H vs as z Q hB r e k
  cases r with
  | nil => cases e
  | cons r t =>
    cases t with
    | cons _ _ =>
      cases r with
      | bl b => cases b <;> cases e
      | _ => cases e
    | nil =>
      cases r with
      | bl b =>
        cases b with
        | true => cases e; exact .inr ⟨_, rfl, k _ H (fun _ _ h => h) (Rp.int _)⟩
        | false => cases e; exact .inr ⟨_, rfl, k _ H (fun _ _ h => h) (Rp.int _)⟩
      | int i => cases e; exact .inl ⟨_, rfl, k _ H (fun _ _ h => h) (Rp.int _)⟩
      | _ => cases e
theorem bInt_dec (p : Prop) [Decidable p] : bInt [.bool (decide p)] = some (.d (.int (if p then 1 else 0))) := by
  by_cases h : p
  · rw [decide_eq_true h, if_pos h]
    rfl
  · rw [decide_eq_false h, if_neg h]
    rfl
/-- a rule or another one -/
theorem callR_or {X : Cx} {f : Value} {r q : List V → Hp → VK → Prop} (h1 : CallR X f r) (h2 : CallR X f q) : CallR X f (fun xs H Q => r xs H Q ∨ q xs H Q) := by
  intro pins s σ H xs us Q I rv h
  rcases h with h | h
  · exact h1 pins s σ H xs us Q I rv h
  · exact h2 pins s σ H xs us Q I rv h
/-- str of an int, of a text -/
def bStr : List PyData → Option DV
  | [.int i] => if i.natAbs.log2 < 1920 then some (.d (.str (Str.ofString (toString i)))) else none
  | [.str a] => some (.d (.str a))
  | _ => none
theorem rsStr : RsD (fun xs H Q => (∃ i, xs = [.int i] ∧ i.natAbs.log2 < 1920 ∧ Q (.str (Str.ofString (toString i))) H) ∨ ∃ a, xs = [.str a] ∧ Q (.str a) H) bStr := by
  intro t B H vs as z Q hB r e k
  cases r with
  | nil => cases e
  | cons r t =>
    cases t with
    | cons _ _ => cases r <;> cases e
    | nil =>
      cases r with
      | int i =>
        have e' : (if i.natAbs.log2 < 1920 then some (DV.d (PyData.str (Str.ofString (toString i)))) else none) = some z := e
        clear e
        split at e'
        · cases e'
          exact .inl ⟨_, rfl, by assumption, k _ H (fun _ _ h => h) (Rp.str _)⟩
        · cases e'
      | str a => cases e; exact .inr ⟨_, rfl, k _ H (fun _ _ h => h) (Rp.str _)⟩
      | _ => cases e
theorem call_strA {X : Cx} : CallR X (.type "str") (fun xs H Q => (∃ i, xs = [.int i] ∧ i.natAbs.log2 < 1920 ∧ Q (.str (Str.ofString (toString i))) H) ∨ ∃ a, xs = [.str a] ∧ Q (.str a) H) := callR_or call_str_int SkE.call_str_str
/-- the texts of a list -/
def strsOf : List PyData → Option (List Str)
  | [] => some []
  | .str i :: ds => (strsOf ds).map (i :: ·)
  | _ => none
theorem strsOf_map : ∀ ys : List Str, strsOf (ys.map PyData.str) = some ys
  | [] => rfl
  | y :: ys => by
    show (strsOf (ys.map PyData.str)).map (y :: ·) = _
    rw [strsOf_map ys]
    rfl
theorem strs_of {M : Hp} : ∀ {vs : List V} {ds : List PyData} {ns : List Str}, RpA M vs ds → strsOf ds = some ns → vs = ns.map V.str
  | _, _, _, .nil, e => by cases e; rfl
  | _, _, ns, .cons r t, e => by
    cases r <;> simp only [strsOf, reduceCtorEq] at e
    cases q : strsOf _ with
    | none => rw [q] at e; cases e
    | some ms =>
      rw [q] at e
      cases e
      rw [strs_of t q]
      rfl
def joinSize (a : Str) (ys : List Str) : Prop := (ys.map (·.length)).sum + ys.length * a.length ≤ 16777216
def dJoin (f g : DF) : DF := fun ρ n Q => f ρ n fun x n1 => ∃ a, x = .d (.str a) ∧ g ρ n1 fun y n2 => ∃ ds, y.dat = some (.list ds) ∧ ∃ ys, strsOf ds = some ys ∧ Cnd (joinSize a ys) ∧ Q (.d (.str (Txt.join a ys))) n2
theorem pdJoin {X : Cx} {e : Expr} {to te : TE} {f g : DF} (h : PE X e (tM1 (fun x xs H Q => ∃ a p, ∃ ys : List Str, x = .str a ∧ xs = [.ref p] ∧ (SqL X.K H p (ys.map V.str) ∨ SqT X.K H p (ys.map V.str)) ∧ (ys.map (·.length)).sum + ys.length * a.length ≤ 16777216 ∧ Q (.str (Txt.join a ys)) H) to te)) (ho : ∀ σ H Q, tD f σ H Q → to σ H Q) (he : ∀ σ H Q, tD g σ H Q → te σ H Q) : PE X e (tD (dJoin f g)) := h.imp fun σ H Q ⟨c, A, n, ρ, Q', E, hf, k⟩ => by
  refine ho _ _ _ ⟨c, A, n, ρ, _, E, hf, fun v x n1 H1 ⟨a, ex, hg⟩ f1 o1 => ?_⟩
  subst ex
  cases o1
  refine ⟨⟨a, rfl⟩, he _ _ _ ⟨c, A, n1, ρ, _, E.fr f1, hg, fun w y n2 H2 ⟨ds, ed, ys, es, hs, hq⟩ f2 o2 => ?_⟩⟩
  have rp := o2.dat (E.fr f1) ed
  cases rp with
  | @lst p xs _ h1 h2 =>
    have ex := strs_of h2 es
    subst ex
    exact ⟨a, p, ys, rfl, rfl, .inl (SqL.of (msk_some h1).2), hs.get, k _ _ n2 H2 hq (f1.trans f2.fr) (Rp.str _)⟩
/-- isinstance(e, T), T a built-in class -/
def tyD : PyData → String
  | .none => "NoneType"
  | .bool _ => "bool"
  | .int _ => "int"
  | .str _ => "str"
  | .list _ => "list"
  | .tuple _ => "tuple"
  | .dict _ => "dict"
def isiB (T : String) (d : PyData) : Bool := match T, d with
  | "int", .bool _ => true
  | "int", .int _ => true
  | "bool", .bool _ => true
  | "str", .str _ => true
  | "list", .list _ => true
  | "tuple", .tuple _ => true
  | _, _ => false
theorem kit_int (a : String) (h : a ∈ ["NoneType", "bool", "int", "str", "list", "tuple"]) : kitB a "int" = some (a == "int" || a == "bool") ∧ kitB a "bool" = some (a == "bool") ∧ kitB a "str" = some (a == "str") ∧ kitB a "list" = some (a == "list") ∧ kitB a "tuple" = some (a == "tuple") := by
  simp only [List.mem_cons, List.not_mem_nil, or_false] at h
  rcases h with rfl | rfl | rfl | rfl | rfl | rfl <;> decide +kernel
def isiOk (T : String) : Prop := T = "int" ∨ T = "bool" ∨ T = "str" ∨ T = "list" ∨ T = "tuple"
theorem kit_d {K : PySem.W.Frag} {T : String} (hT : isiOk T) {d : PyData} (hd : ∀ kvs, d ≠ .dict kvs) : PySem.W.kitOne K (.type (tyD d)) (.type T) = some (isiB T d) := by
  cases d with
  | dict kvs => exact absurd rfl (hd kvs)
  | none => obtain ⟨h1, h2, h3, h4, h5⟩ := kit_int "NoneType" (by decide); rcases hT with e | e | e | e | e <;> subst e <;> exact kit_ty (by assumption)
  | bool b => obtain ⟨h1, h2, h3, h4, h5⟩ := kit_int "bool" (by decide); rcases hT with e | e | e | e | e <;> subst e <;> exact kit_ty (by assumption)
  | int i => obtain ⟨h1, h2, h3, h4, h5⟩ := kit_int "int" (by decide); rcases hT with e | e | e | e | e <;> subst e <;> exact kit_ty (by assumption)
  | str s => obtain ⟨h1, h2, h3, h4, h5⟩ := kit_int "str" (by decide); rcases hT with e | e | e | e | e <;> subst e <;> exact kit_ty (by assumption)
  | list xs => obtain ⟨h1, h2, h3, h4, h5⟩ := kit_int "list" (by decide); rcases hT with e | e | e | e | e <;> subst e <;> exact kit_ty (by assumption)
  | tuple xs => obtain ⟨h1, h2, h3, h4, h5⟩ := kit_int "tuple" (by decide); rcases hT with e | e | e | e | e <;> subst e <;> exact kit_ty (by assumption)
theorem rp_ty {K : PySem.W.Frag} {M H : Hp} {v : V} {d : PyData} (r : Rp M v d) (m : ∀ b o, M b = some o → H b = some o) (hd : ∀ kvs, d ≠ .dict kvs) : TyX K H v (.type (tyD d)) := by
  cases r with
  | non => exact .base .non
  | bl b => exact .base (.bl b)
  | int i => exact .base (.int i)
  | str s => exact .base (.str s)
  | lst h _ => exact .base (.lst (m _ _ h))
  | tup h _ => exact .base (.tup (m _ _ h))
  | hnd a => exact absurd rfl (hd _)
/-- what is told, as data, no handle -/
def DV.datN : DV → Option PyData
  | .d (.dict _) => none
  | .d x => some x
  | .own ds => some (.list ds)
  | _ => none
theorem datN_dat {r : DV} {d : PyData} (h : r.datN = some d) : r.dat = some d ∧ ∀ kvs, d ≠ .dict kvs := by
  cases r with
  | d x => cases x <;> cases h <;> exact ⟨rfl, fun _ z => by cases z⟩
  | own ds => cases h; exact ⟨rfl, fun _ z => by cases z⟩
  | _ => cases h
def dIsi (T : String) (f : DF) : DF := fun ρ n Q => f ρ n fun r n1 => ∃ d, r.datN = some d ∧ Q (.d (.bool (isiB T d))) n1
theorem pdIsi {X : Cx} {c e : Expr} {p pos : Pos} {T : String} {f : DF} (hT : isiOk T) (hm : X.mg "isinstance" = none) (hg : Gl X "isinstance") (hc : PE X c (tC (.ty T))) (he : PE X e (tD f))
    (hs : starEach (e :: [c]) X.env = (false, eval e X.env) :: starEach [c] X.env := by rfl) (hpl : (backTo pos (starEach [c] X.env)).any (·.1) = false := by rfl) (hs2 : starEach [c] X.env = (false, eval c X.env) :: starEach [] X.env := by rfl) :
    PE X (.Call (.Name "isinstance" p) [e, c] [] pos) (tD (dIsi T f)) := (pe_callB call_isi hg hm (by decide +kernel) (pa_cons he (pa_cons hc pa_nil hs2) hs) (by decide) (by decide) hs hpl).imp fun σ H Q ⟨c, A, n, ρ, Q', E, hf, k⟩ => by
  refine ⟨c, A, n, ρ, _, E, hf, fun v r n1 H1 ⟨d, ed, hq⟩ f1 o1 => ?_⟩
  obtain ⟨ed, nd⟩ := datN_dat ed
  have rp := o1.dat E ed
  have ty := rp_ty (K := X.K) (H := H1) rp (fun b o h => (msk_some h).2) nd
  exact ⟨v, .ty T, _, _, _, rfl, .ty T, ty, kit_d hT nd, k _ _ n1 H1 hq f1.fr (Rp.bl _)⟩
/-- a statement, then the rest from a word between them -/
def dCut (F G : DS) : DS := fun E ρ n => ∃ Mid : List DV → Fam.S → Prop, F { E with nx := Mid } ρ n ∧ ∀ ρ n, Mid ρ n → G E ρ n
theorem psCut {X : Cx} {st : Stmt} {rest : List Stmt} {F G : DS} (h : PS X st (sD F)) (h2 : PSs X rest (sD G)) : PSs X (st :: rest) (sD (dCut F G)) := (pss_cons h h2).imp fun D σ H ⟨c, A, n, ρ, E, e, ⟨Mid, hF, hG⟩, L⟩ =>
  ⟨c, A, n, ρ, _, e, hF, fun A n σ H ρ h e' => ⟨c, A, n, ρ, E, e', hG ρ n h, L⟩, L.rt, L.bk, L.ct⟩
theorem mul_big {a b : Int} (ha : a.natAbs < 2 ^ 400) (hb : b.natAbs < 2 ^ 400) : CMulW a b := wide_mul (a := 400) (b := 400) ha hb (by decide) (by decide) (by decide)
end

/-! ### data readings: looks at one's own in tests; pop within an expression -/
section
variable [Fam] [Tabz]
def dPkT (t : DT) : DT := fun ρ n Q => t (coldD ρ) n Q
theorem ptPk [Quiet] {X : Cx} {e : Expr} {t : DT} (h : PT X e (tDT t)) : PT X e (tDT (dPkT t)) := h.imp fun σ H Q ⟨c, A, n, ρ, Q', E, hf, k⟩ => by
  obtain ⟨A', E'⟩ := E.colds
  exact ⟨c, A', n, _, _, E', hf, fun b n' H' hq f => k b n' H' hq ⟨f.1, c.Gq f.2⟩⟩
/-- an expression that changes one's own: what is told is data -/
abbrev DX := List DV → Fam.S → (PyData → List DV → Fam.S → Prop) → Prop
def tX (f : DX) : TE := fun σ H Q => ∃ (c : EC) (A : Nat → Option Addr) (n : Fam.S) (ρ : List DV) (Q' : PyData → List DV → Fam.S → Prop), EnvA c A n σ H ρ ∧ f ρ n Q' ∧
  ∀ v x ρ' n' H', Q' x ρ' n' → EnvA c A n' σ H' ρ' → Rp (msk (c.av n' A) H') v x → Xt (msk (c.av n A) H) (msk (c.av n' A) H') → Q v H'
/-- xs.pop() -/
def xPop (i : Nat) : DX := fun ρ n Q => ∃ ds d, ρ[i]? = some (.own (ds ++ [d])) ∧ Q d (ρ.set i (.own ds)) n
theorem msk_upd {B : Addr → Prop} {H : Hp} {a : Addr} {o : HO} (h : B a) : msk B (upd H a o) = msk B H := by
  funext b
  by_cases z : B b
  · unfold msk
    rw [if_pos z, if_pos z]
  · rw [msk_out z, msk_out z, upd_ne (fun e => z (by rw [e]; exact h))]
theorem RpA.split {M : Hp} : ∀ {vs : List V} {ds : List PyData} {d : PyData}, RpA M vs (ds ++ [d]) → ∃ ws w, vs = ws ++ [w] ∧ RpA M ws ds ∧ Rp M w d
  | _, [], d, h => by
    cases h with
    | cons r t =>
      cases t
      exact ⟨[], _, rfl, .nil, r⟩
  | _, e :: ds, d, h => by
    cases h with
    | cons r t =>
      obtain ⟨ws, w, e1, h1, h2⟩ := RpA.split t
      exact ⟨_ :: ws, w, by rw [e1]; rfl, .cons r h1, h2⟩
theorem pxPop {X : Cx} {i : Nat} {e : Expr} (h : PE X e (tBM0 X.K "list" rPop (tVar i))) : PE X e (tX (xPop i)) := h.imp fun σ H Q ⟨c, A, n, ρ, Q', E, ⟨ds, d, e1, hq⟩, k⟩ => by
  obtain ⟨a, vs, h1, h2, h3, h4⟩ := E.slot i _ e1
  obtain ⟨ws, w, e2, r1, r2⟩ := h4.split
  subst e2
  refine ⟨_, h2, .inl ⟨rfl, _, SqL.of h3⟩, a, _, w, rfl, rfl, h3, by simp, ?_⟩
  have av : c.av n A a := .inr ⟨i, h1⟩
  have dl : (ws ++ [w]).dropLast = ws := by simp
  rw [dl]
  refine k w d _ n _ hq (E.mut h1 h3 (.inl ⟨_, rfl⟩) (fun ps z => by cases z) ⟨a, ws, h1, h2, upd_same, r1⟩ fun _ => rfl) ?_ ?_
  · rw [msk_upd av]
    exact r2
  · rw [msk_upd av]
    exact fun b o _ z => z
def xIx (op : PyData → PyData → Option DV) (f : DX) (g : DF) : DX := fun ρ n Q => f ρ n fun x ρ1 n1 => g ρ1 n1 fun y n2 => ∃ b, y.dat = some b ∧ ∃ z, op x b = some (.d z) ∧ Q z ρ1 n2
theorem pxIx {X : Cx} {r : R2} {op : PyData → PyData → Option DV} {a b : Expr} {f : DX} {g : DF} {pos : Pos} (hd : R2D r op) (hr : IxR X r) (ha : PE X a (tX f)) (hb : PE X b (tD g)) (hs : PlainIx b) : PE X (.Subscript a b pos) (tX (xIx op f g)) := (pe_ix hr ha hb hs).imp fun σ H Q ⟨c, A, n, ρ, Q', E, hf, k⟩ => by
  refine ⟨c, A, n, ρ, _, E, hf, fun v x ρ1 n1 H1 hg E1 rv s1 => ⟨c, A, n1, ρ1, _, E1, hg, fun w y n2 H2 ⟨bd, eb, z, ez, hq⟩ f2 o2 => ?_⟩⟩
  have E2 := E1.fr f2
  refine hd c.t (c.av n2 A) H2 v w x bd (.d z) Q (fun b hb => (E2.there hb).imp fun o h => h.1) (rv.ex f2.msk) (o2.dat E1 eb) ez fun u H3 s3 o3 => ?_
  have f3 : Fr c A n2 n2 H2 H3 := Fr.same E2.g s3
  exact k u z ρ1 n2 H3 hq (E2.fr f3) o3 fun b o nt h => f3.msk b o nt (f2.msk b o nt (s1 b o nt h))
def xOp (op : PyData → PyData → Option DV) (f : DF) (g : DX) : DX := fun ρ n Q => f ρ n fun x n1 => ∃ a, x.dat = some a ∧ g ρ n1 fun b ρ2 n2 => ∃ z, op a b = some (.d z) ∧ Q z ρ2 n2
theorem pxOp {X : Cx} {o : Operator} {r : R2} {op : PyData → PyData → Option DV} {a b : Expr} {f : DF} {g : DX} {pos : Pos} (hd : R2D r op) (ho : OpR X (binaryOp o) r) (ha : PE X a (tD f)) (hb : PE X b (tX g)) : PE X (.BinOp a o b pos) (tX (xOp op f g)) := (pe_op ho ha hb).imp fun σ H Q ⟨c, A, n, ρ, Q', E, hf, k⟩ => by
  refine ⟨c, A, n, ρ, _, E, hf, fun v x n1 H1 ⟨ad, ea, hg⟩ f1 o1 => ⟨c, A, n1, ρ, _, E.fr f1, hg, fun w bd ρ2 n2 H2 ⟨z, ez, hq⟩ E2 rw2 s2 => ?_⟩⟩
  refine hd c.t (c.av n2 A) H2 v w ad bd (.d z) Q (fun b hb => (E2.there hb).imp fun o h => h.1) ((o1.dat E ea).ex s2) rw2 ez fun u H3 s3 o3 => ?_
  have f3 : Fr c A n2 n2 H2 H3 := Fr.same E2.g s3
  exact k u z ρ2 n2 H3 hq (E2.fr f3) o3 fun b o nt h => f3.msk b o nt (s2 b o nt (f1.msk b o nt h))
/-- (e,), (e, f) -/
def xTup (f : DX) (g : DA) : DX := fun ρ n Q => f ρ n fun x ρ1 n1 => g ρ1 n1 fun rs n2 => ∃ ds, datsOf rs = some ds ∧ ds.length ≤ 1000 ∧ Q (.tuple (x :: ds)) ρ1 n2
theorem pxTup {X : Cx} {e : Expr} {es : List Expr} {f : DX} {g : DA} {pos : Pos} {x1} (h : PE X e (tX f)) (hr : PA X es (tDA g)) (hs : starEach (e :: es) X.env = (false, eval e X.env) :: starEach es X.env := by rfl) : PE X (.Tuple (e :: es) x1 pos) (tX (xTup f g)) := (pe_tup (pa_cons h hr hs)).imp fun σ H Q ⟨c, A, n, ρ, Q', E, hf, k⟩ => by
  refine ⟨c, A, n, ρ, _, E, hf, fun v x ρ1 n1 H1 hg E1 rv s1 => ⟨c, A, n1, ρ1, _, E1, hg, fun vs rs n2 H2 ⟨ds, ed, hl, hq⟩ f2 o2 => ?_⟩⟩
  have r2 := o2.dats E1 ed
  have E2 := E1.fr f2
  refine ⟨big_line (by show vs.length + 1 ≤ 100000; rw [r2.length]; omega), fun p hp => ?_⟩
  have f3 : Fr c A n2 n2 H2 (upd H2 p (.tup (v :: vs))) := Fr.new E2.g hp
  exact k _ _ ρ1 n2 _ hq (E2.fr f3) (tup_new E2 hp (.cons (rv.ex f2.msk) r2)) fun b o nt h => f3.msk b o nt (f2.msk b o nt (s1 b o nt h))
/-- y = e, e changes one's own -/
def dSetX (i : Nat) (f : DX) : DS := fun E ρ n => f ρ n fun x ρ1 n1 => i < ρ1.length ∧ E.nx (ρ1.set i (.d x)) n1
theorem psSetX {X : Cx} {i : Nat} {x : Str} {e : Expr} {f : DX} {pos' pos : Pos} (hN : X.N.Nodup) (hi : X.N[i]? = some x) (hx : Loc X.env.scope x) (he : PE X e (tX f)) (hs : swapsWith e (some (.Name x pos')) pos.line X.env = pure false := by rfl) (hf : X.fn x = true ∨ X.env.scope.names.lookup x = some .local := by first | exact .inl rfl | exact .inr rfl | assumption) :
    PS X (.Assign [.Name x pos'] e pos) (sD (dSetX i f)) := (ps_set hN hi hx he hs hf).imp fun D σ H ⟨c, A, n, ρ, E, e, hf, L⟩ =>
  ⟨c, A, n, ρ, _, e, hf, fun v x ρ1 n1 H1 ⟨hi, h1⟩ E1 rv _ => L.nx _ _ _ _ _ h1 (E1.putD rv hi)⟩
end

/-! ### data readings: a dict of one's own, keys ints or texts -/
section
variable [Fam] [Tabz]
theorem hu_of {k : Nat} {A : Around} (hr : Room k A) : A.units + 1 < cLine := by
  have := hr.un
  omega
def kD : Key → PyData
  | .inl i => .int i
  | .inr x => .str x
def valD (kvs : List (Key × PyData)) (k : Key) : Option PyData := (kvs.find? fun kv => decide (kv.1 = k)).map (·.2)
def putKD (kvs : List (Key × PyData)) (k : Key) (d : PyData) : List (Key × PyData) := if (kvs.any fun kv => decide (kv.1 = k)) = true then kvs.map fun kv => if kv.1 = k then (kv.1, d) else kv else kvs ++ [(k, d)]
theorem kD_kV {M : Hp} {v : V} {k : Key} (h : Rp M v (kD k)) : v = kV k := by
  cases k with
  | inl i => cases h; rfl
  | inr x => cases h; rfl
theorem kV_kD {M : Hp} (k : Key) : Rp M (kV k) (kD k) := by
  cases k with
  | inl i => exact .int i
  | inr x => exact .str x
theorem KRp.val {M : Hp} {ws : List (Key × V)} {kvs : List (Key × PyData)} (r : KRp M ws kvs) (k : Key) : (valV ws k = none ∧ valD kvs k = none) ∨ ∃ v d, valV ws k = some v ∧ valD kvs k = some d ∧ Rp M v d := by
  induction r with
  | nil => exact .inl ⟨rfl, rfl⟩
  | @cons j v d ws kvs h _ ih =>
    unfold valV valD at ih ⊢
    rw [List.find?_cons, List.find?_cons]
    by_cases q : j = k
    · rw [decide_eq_true q]
      exact .inr ⟨v, d, rfl, rfl, h⟩
    · rw [decide_eq_false q]
      exact ih
theorem KRp.length {M : Hp} {ws : List (Key × V)} {kvs : List (Key × PyData)} (r : KRp M ws kvs) : ws.length = kvs.length := by
  induction r with
  | nil => rfl
  | cons _ _ ih => exact congrArg Nat.succ ih
theorem KRp.put {M : Hp} {ws : List (Key × V)} {kvs : List (Key × PyData)} (r : KRp M ws kvs) {k : Key} {v : V} {d : PyData} (h : Rp M v d) : KRp M (putK ws k v) (putKD kvs k d) := by
  have ha : (ws.any fun kv => decide (kv.1 = k)) = kvs.any fun kv => decide (kv.1 = k) := by
    induction r with
    | nil => rfl
    | cons _ _ ih => rw [List.any_cons, List.any_cons, ih]
  unfold putK putKD
  rw [ha]
  split
  · rename_i hq; clear hq ha
    induction r with
    | nil => exact .nil
    | @cons j v0 d0 ws kvs h0 _ ih =>
      rw [List.map_cons, List.map_cons]
      by_cases q : j = k
      · rw [if_pos (show (j, v0).1 = k from q), if_pos (show (j, d0).1 = k from q)]
        exact .cons h ih
      · rw [if_neg (show ¬ (j, v0).1 = k from q), if_neg (show ¬ (j, d0).1 = k from q)]
        exact .cons h0 ih
  · rename_i hq; clear hq ha
    induction r with
    | nil => exact .cons h .nil
    | cons h0 _ ih => exact .cons h0 ih
theorem valD_put (kvs : List (Key × PyData)) (k j : Key) (d : PyData) : valD (putKD kvs k d) j = if j = k then some d else valD kvs j := by
  have hany : ∀ l : List (Key × PyData), (l.any fun kv => decide (kv.1 = k)) = false → valD l k = none := fun l => by
    induction l with
    | nil => intro _; rfl
    | cons p l ih =>
      intro h
      rw [List.any_cons, Bool.or_eq_false_iff] at h
      unfold valD at ih ⊢
      rw [List.find?_cons, h.1]
      exact ih h.2
  have hmap : ∀ l : List (Key × PyData), (l.any fun kv => decide (kv.1 = k)) = true → valD (l.map fun kv => if kv.1 = k then (kv.1, d) else kv) j = if j = k then some d else valD l j := fun l => by
    induction l with
    | nil => intro h; cases h
    | cons p l ih =>
      intro h
      rw [List.any_cons] at h
      unfold valD at ih ⊢
      rw [List.map_cons, List.find?_cons, List.find?_cons]
      by_cases q : p.1 = k
      · rw [if_pos q]
        by_cases z : j = k
        · subst z
          rw [if_pos rfl]
          simp [q]
        · rw [if_neg z]
          have z1 : ¬ p.1 = j := fun e => z (e.symm.trans q)
          simp only [decide_eq_false z1]
          by_cases ha : (l.any fun kv => decide (kv.1 = k)) = true
          · have := ih ha
            rw [if_neg z] at this
            exact this
          · have hm : (l.map fun kv => if kv.1 = k then (kv.1, d) else kv) = l := by
              have : ∀ m : List (Key × PyData), (m.any fun kv => decide (kv.1 = k)) = false → (m.map fun kv => if kv.1 = k then (kv.1, d) else kv) = m := fun m => by
                induction m with
                | nil => intro _; rfl
                | cons x m ihm =>
                  intro hx
                  rw [List.any_cons, Bool.or_eq_false_iff] at hx
                  rw [List.map_cons, ihm hx.2, if_neg (of_decide_eq_false hx.1)]
              exact this l ((Bool.not_eq_true _).mp ha)
            rw [hm]
      · rw [if_neg q]
        have ha : (l.any fun kv => decide (kv.1 = k)) = true := by
          rw [decide_eq_false q, Bool.false_or] at h
          exact h
        by_cases z1 : p.1 = j
        · have z : ¬ j = k := fun e => q (z1.trans e)
          rw [if_neg z]
          simp [decide_eq_true z1]
        · simp only [decide_eq_false z1]
          exact ih ha
  unfold putKD
  split
  · rename_i h
    exact hmap kvs h
  · rename_i h
    have h' : (kvs.any fun kv => decide (kv.1 = k)) = false := (Bool.not_eq_true _).mp h
    have hk := hany kvs h'
    unfold valD at hk ⊢
    rw [List.find?_append]
    by_cases z : j = k
    · subst z
      rw [if_pos rfl]
      have : kvs.find? (fun kv => decide (kv.1 = j)) = none := by simpa using hk
      rw [this]
      simp
    · rw [if_neg z]
      have z' : ¬ k = j := fun e => z e.symm
      simp [z']
theorem putKD_len (kvs : List (Key × PyData)) (k : Key) (d : PyData) : (putKD kvs k d).length ≤ kvs.length + 1 := by
  unfold putKD
  split
  · rw [List.length_map]; omega
  · rw [List.length_append]; exact Nat.le_refl _
theorem dic_new {c : EC} {A : Nat → Option Addr} {n : Fam.S} {σ : L2.St} {H : Hp} {ρ : List DV} (E : EnvA c A n σ H ρ) {p : Addr} {ws : List (Key × V)} {kvs : List (Key × PyData)} (hp : H p = none) (h : KRp (msk (c.av n A) H) ws kvs) : VOk c.t (c.av n A) H (.ref p) (upd H p (.dK ws)) (.dic kvs) := by
  refine ⟨p, ws, rfl, ⟨.of hp, E.apart (.of hp)⟩, upd_same, h.ex fun b o _ e => ?_⟩
  obtain ⟨h1, h2⟩ := msk_some e
  have ne : b ≠ p := ne_of_none h2 hp
  rw [msk_out (fun z => z.elim h1 ne), upd_ne ne]
  exact h2
/-- {} -/
def dDNew : DF := fun _ n Q => Q (.dic []) n
theorem pdDNew {X : Cx} {e : Expr} (h : PE X e tDNewK) : PE X e (tD dDNew) := h.imp fun σ H Q ⟨c, A, n, ρ, Q', E, hf, k⟩ => by
  intro p hp
  have o := dic_new (ws := []) (kvs := []) E hp .nil
  exact k (.ref p) _ n _ hf (FrV.same E.g (same_new hp) o) o
/-- d.get(k, x) -/
def dDGet2 (i : Nat) (f g : DF) : DF := fun ρ n Q => (∃ kvs, ρ[i]? = some (.dic kvs)) ∧ f ρ n fun x n1 => ∃ k : Key, x = .d (kD k) ∧ g ρ n1 fun y n2 => ∃ kvs, ρ[i]? = some (.dic kvs) ∧ ∃ z, y.dat = some z ∧ Q (.d ((valD kvs k).getD z)) n2
theorem pdDGet2 {X : Cx} {o e f : Expr} {apos cpos : Pos} {i : Nat} {fe ff : DF} (hu : X.A.units + 1 < cLine) (ho : PE X o (tVar i)) (he : PE X e (tD fe)) (hf : PE X f (tD ff)) (m : M2 X o "get" apos e f cpos) : PE X (.Call (.Attribute o "get" apos) [e, f] [] cpos) (tD (dDGet2 i fe ff)) := (pe_dget2 hu ho he hf m).imp fun σ H Q ⟨c, A, n, ρ, Q', E, ⟨⟨kvs0, e0⟩, hf⟩, k⟩ => by
  obtain ⟨a, ws, h1, h2, h3, h4⟩ := E.slot i _ e0
  refine ⟨_, h2, a, rfl, .inl ⟨ws, .inl h3⟩, c, A, n, ρ, _, E, hf, fun v x n1 H1 ⟨key, ex, hg⟩ f1 o1 => ⟨c, A, n1, ρ, _, E.fr f1, hg, fun w y n2 H2 ⟨kvs, e1, z, ez, hq⟩ f2 o2 => ?_⟩⟩
  subst ex
  have E2 := (E.fr f1).fr f2
  obtain ⟨a', ws', k1, k2, k3, k4⟩ := E2.slot i _ e1
  rw [h1] at k1
  cases k1
  obtain rfl := kD_kV (show Rp _ v (kD key) from o1)
  refine ⟨valV ws' key, .inl ⟨ws', key, .inl k3, rfl, rfl⟩, ?_⟩
  rcases k4.val key with ⟨q1, q2⟩ | ⟨u, d, q1, q2, rp⟩
  · rw [q2] at hq
    rw [q1]
    exact k w _ n2 H2 hq (f1.trans f2.fr) (o2.dat (E.fr f1) ez)
  · rw [q2] at hq
    rw [q1]
    exact k u _ n2 H2 hq (f1.trans f2.fr) rp
/-- d[k] -/
def dDIx (i : Nat) (f : DF) : DF := fun ρ n Q => (∃ kvs, ρ[i]? = some (.dic kvs)) ∧ f ρ n fun x n1 => ∃ k : Key, x = .d (kD k) ∧ ∃ kvs, ρ[i]? = some (.dic kvs) ∧ ∃ z, valD kvs k = some z ∧ Q (.d z) n1
theorem pdDIx {X : Cx} {o e : Expr} {pos : Pos} {i : Nat} {fe : DF} (h : PE X (.Subscript o e pos) (tDGet (tVar i) (tD fe))) : PE X (.Subscript o e pos) (tD (dDIx i fe)) := h.imp fun σ H Q ⟨c, A, n, ρ, Q', E, ⟨⟨kvs0, e0⟩, hf⟩, k⟩ => by
  obtain ⟨a, ws, h1, h2, h3, h4⟩ := E.slot i _ e0
  refine ⟨_, h2, c, A, n, ρ, _, E, hf, fun v x n1 H1 ⟨key, ex, kvs, e1, z, ez, hq⟩ f1 o1 => ?_⟩
  subst ex
  have E1 := E.fr f1
  obtain ⟨a', ws', k1, k2, k3, k4⟩ := E1.slot i _ e1
  rw [h1] at k1
  cases k1
  obtain rfl := kD_kV (show Rp _ v (kD key) from o1)
  rcases k4.val key with ⟨q1, q2⟩ | ⟨u, d, q1, q2, rp⟩
  · rw [q2] at ez
    cases ez
  · rw [q2] at ez
    cases ez
    exact ⟨a, u, rfl, .inl ⟨ws', key, .inl k3, rfl, q1.symm⟩, k u _ n1 H1 hq f1.fr rp⟩
/-- k in d -/
def dDIn (neg : Bool) (i : Nat) (f : DF) : DF := fun ρ n Q => (∃ kvs, ρ[i]? = some (.dic kvs)) ∧ f ρ n fun x n1 => ∃ k : Key, x = .d (kD k) ∧ ∃ kvs, ρ[i]? = some (.dic kvs) ∧ Q (.d (.bool (if neg then !(valD kvs k).isSome else (valD kvs k).isSome))) n1
/-- d[k] = x -/
def dDPut (i : Nat) (f g : DF) : DS := fun E ρ n => (∃ kvs, ρ[i]? = some (.dic kvs)) ∧ g ρ n fun y n1 => f ρ n1 fun x n2 => ∃ k : Key, x = .d (kD k) ∧ ∃ z, y.dat = some z ∧ ∃ kvs, ρ[i]? = some (.dic kvs) ∧ kvs.length < 100000 ∧ E.nx (ρ.set i (.dic (putKD kvs k z))) n2
theorem psDPut {X : Cx} {o e value : Expr} {pos pos' : Pos} {i : Nat} {fe fv : DF} (hu : X.A.units + 1 < cLine) (ho : PE X o (tVar i)) (he : PE X e (tD fe)) (hv : PE X value (tD fv)) (hs : swapsWith value (some (.Subscript o e pos')) pos.line X.env = pure false := by rfl) :
    PS X (.Assign [.Subscript o e pos'] value pos) (sD (dDPut i fe fv)) := (ps_dput hu ho he hv hs).imp fun D σ H ⟨c, A, n, ρ, E, e, ⟨⟨kvs0, e0⟩, hf⟩, L⟩ => by
  refine ⟨c, A, n, ρ, _, e, hf, fun v y n1 H1 hg f1 o1 => ?_⟩
  have E1 := e.fr f1
  obtain ⟨a, ws, h1, h2, h3, h4⟩ := E1.slot i _ e0
  refine ⟨_, h2, c, A, n1, ρ, _, E1, hg, fun w x n2 H2 ⟨key, ex, z, ez, kvs, e1, hl, hn⟩ f2 o2 => ?_⟩
  subst ex
  have E2 := E1.fr f2
  obtain ⟨a', ws', k1, k2, k3, k4⟩ := E2.slot i _ e1
  rw [h1] at k1
  cases k1
  obtain rfl := kD_kV (show Rp _ w (kD key) from o2)
  have rv : Rp (msk (c.av n2 A) H2) v z := (o1.dat e ez).ex f2.msk
  refine ⟨a, _, rfl, .inl ⟨ws', key, k3, rfl, big_lt (by rw [k4.length]; exact hl), rfl⟩, ?_⟩
  exact L.nx _ _ _ _ _ hn (E2.mut h1 k3 (.inr ⟨_, rfl⟩) (fun ps z => by cases z) ⟨a, _, h1, k2, upd_same, k4.put rv⟩ fun _ => rfl)
end

/-! ### dict([(k, v), ..]) of pairs whose keys are ints or texts -/
section
variable [Fam] [Tabz]
def pairK (q : Key × PyData) : PyData := .tuple [kD q.1, q.2]
def mergeD (kvs more : List (Key × PyData)) : List (Key × PyData) := more.foldl (fun acc kv => putKD acc kv.1 kv.2) kvs
theorem KRp.merge {M : Hp} {more : List (Key × V)} {ds : List (Key × PyData)} (r : KRp M more ds) : ∀ {ws : List (Key × V)} {kvs : List (Key × PyData)}, KRp M ws kvs → KRp M (mergeK ws more) (mergeD kvs ds) := by
  induction r with
  | nil => intro ws kvs h; exact h
  | cons h _ ih => intro ws kvs q; exact ih (q.put h)
theorem pairs_rp {M : Hp} : ∀ {vs : List V} {ds : List (Key × PyData)}, RpA M vs (ds.map pairK) → ∃ (ps : List Addr) (kvs : List (Key × V)), vs = ps.map V.ref ∧ KRp M kvs ds ∧ Paired (fun p kv => M p = some (.tup [kV kv.1, kv.2])) ps kvs
  | _, [], h => by
    cases h
    exact ⟨[], [], rfl, .nil, .nil⟩
  | _, (k, d) :: ds, h => by
    cases h with
    | cons r t =>
      obtain ⟨ps, kvs, e, h1, h2⟩ := pairs_rp t
      cases r with
      | @tup a xs _ g1 g2 =>
        cases g2 with
        | cons r1 t1 => cases t1 with
          | cons r2 t2 =>
            cases t2
            have ek := kD_kV r1
            subst ek
            exact ⟨a :: ps, (k, _) :: kvs, by rw [e]; rfl, .cons r2 h1, .cons g1 h2⟩
def dDictP (f : DF) : DF := fun ρ n Q => f ρ n fun r n1 => ∃ ds : List (Key × PyData), r.dat = some (.list (ds.map pairK)) ∧ Q (.dic (mergeD [] ds)) n1
theorem pdDictP {X : Cx} {e : Expr} {f : DF} (h : PE X e (tCB (fun xs H Q => ∃ (a : Addr) (ps : List Addr) (kvs : List (Key × V)), xs = [.ref a] ∧ SqL X.K H a (ps.map V.ref) ∧ Paired (fun p kv => SqT X.K H p [kV kv.1, kv.2]) ps kvs ∧
    ∀ p, H p = none → Q (.ref p) (upd H p (.dK (mergeK [] kvs)))) (tCons (tD f) tNil))) : PE X e (tD (dDictP f)) := h.imp fun σ H Q ⟨c, A, n, ρ, Q', E, hf, k⟩ => by
  refine ⟨c, A, n, ρ, _, E, hf, fun v r n1 H1 ⟨ds, ed, hq⟩ f1 o1 => ?_⟩
  have rp := o1.dat E ed
  have E1 := E.fr f1
  cases rp with
  | @lst l xs _ h1 h2 =>
    obtain ⟨ps, kvs, e1, hk, hp⟩ := pairs_rp h2
    subst e1
    have up : ∀ {ps : List Addr} {kvs : List (Key × V)}, Paired (fun p kv => msk (c.av n1 A) H1 p = some (.tup [kV kv.1, kv.2])) ps kvs → Paired (fun p kv => SqT X.K H1 p [kV kv.1, kv.2]) ps kvs := fun {ps kvs} h => by
      induction h with
      | nil => exact .nil
      | cons a _ ih => exact .cons (SqT.of (msk_some a).2) ih
    refine ⟨l, ps, kvs, rfl, SqL.of (msk_some h1).2, up hp, fun p np => ?_⟩
    have o := dic_new E1 np (hk.merge (ws := []) (kvs := []) .nil)
    exact k _ _ n1 _ hq (f1.trans (FrV.same E1.g (same_new np) o)) (VOk.mono E f1 o)
theorem merge_val : ∀ (ds : List (Key × PyData)) (acc : List (Key × PyData)), (ds.map (·.1)).Nodup → (∀ k v, (k, v) ∈ ds → valD (mergeD acc ds) k = some v) ∧ ∀ k, k ∉ ds.map (·.1) → valD (mergeD acc ds) k = valD acc k
  | [], acc, _ => ⟨fun k v h => (by cases h), fun k _ => rfl⟩
  | (k0, v0) :: ds, acc, h => by
    obtain ⟨h1, h2⟩ := List.nodup_cons.mp h
    obtain ⟨a, b⟩ := merge_val ds (putKD acc k0 v0) h2
    refine ⟨fun k v hm => ?_, fun k hk => ?_⟩
    · rcases List.mem_cons.mp hm with e | e
      · cases e
        show valD (mergeD (putKD acc k0 v0) ds) k0 = _
        rw [b k0 h1, valD_put, if_pos rfl]
      · exact a k v e
    · have hk' := fun z => hk (List.mem_cons.mpr z)
      show valD (mergeD (putKD acc k0 v0) ds) k = _
      rw [b k fun z => hk' (.inr z), valD_put, if_neg fun z => hk' (.inl z)]
theorem mergeD_len : ∀ (ds acc : List (Key × PyData)), (mergeD acc ds).length ≤ acc.length + ds.length
  | [], acc => Nat.le_refl _
  | q :: ds, acc => by
    have := mergeD_len ds (putKD acc q.1 q.2)
    have := putKD_len acc q.1 q.2
    show (mergeD (putKD acc q.1 q.2) ds).length ≤ acc.length + (ds.length + 1)
    omega
end

/-! ### calls with keywords, by the number of values -/
section
variable [Fam] [Tabz]
/-- a call with keywords, by the number of values (KBn) -/
theorem vsOk_len {t : V} {B : Addr → Prop} {H H' : Hp} : ∀ {vs : List V} {rs : List DV}, VsOk t B H H' vs rs → vs.length = rs.length
  | _, _, .nil => rfl
  | _, _, .cons _ _ q => congrArg Nat.succ (vsOk_len q)
def dCallN (a b : Nat) (m : DM) (gD : List DV → List DV → List DV) (g h : DA) : DF := fun ρ n Q => g ρ n fun rs n1 => h ρ n1 fun ks n2 => (rs.length = a ∧ ks.length = b) ∧ plainR (gD rs ks) ∧ m (gD rs ks) n2 Q
theorem callN_le {a b : Nat} {m : DM} {gV : List V → List V → List V} {gD : List DV → List DV → List DV} {g h : DA} (hk : KwOk gV gD) (E0 : XK) (σ : L2.St) (H : Hp) (Q : VK) (q : tD (dCallN a b m gD g h) σ H Q) : tCallN a b (spD m) gV E0 (tDA g) (tDA h) σ H Q := by
  obtain ⟨c, A, n, ρ, Q', E, hf, k⟩ := q
  refine ⟨c, A, n, ρ, _, E, hf, fun vs rs n1 H1 h1 f1 o1 => ⟨c, A, n1, ρ, _, E.fr f1, h1, fun zs ks n2 H2 ⟨⟨l1, l2⟩, pl, hm⟩ f2 o2 => ?_⟩⟩
  have E2 := (E.fr f1).fr f2
  refine ⟨(vsOk_len o1).trans l1, (vsOk_len o2).trans l2, ?_⟩
  have oa : VsOk c.t (c.av n2 A) H H2 (gV vs zs) (gD rs ks) := hk _ _ _ _ _ _ _ _ (o1.later E f1 f2) (o2.mono E f1)
  refine ⟨E2.ec, n2, gD rs ks, Q', rfl, rfl, by rw [E2.ec_B]; exact E2.g, rfl, by rw [E2.ec_B]; exact VsOk.now (m := n2) E oa pl, hm, fun v r n' H' hq f3 o3 => ?_⟩
  rw [E2.ec_B] at o3
  exact k v r n' H' hq ((f1.trans f2).trans (E2.ec_fr f3)) (VOk.mono E (f1.trans f2) o3)
theorem pdCallN {X : Cx} {CX : CXT} {k n : Nat} {f : Addr} {fd : FuncData} {ps ks : List Str} {gW : List Value → List Value → List Value} {gV : List V → List V → List V} {gD : List DV → List DV → List DV} {m : DM} {x : Str} {p pos : Pos} {e : Expr} {es : List Expr} {kws : List Keyword} {g h : DA} {E0 : XK} (hkw : KwOk gV gD) (F : FnOk X.prog X.w X.K X.mg X.base CX k f fd ps (spD m)) (hr : Room k X.A) (hg : Gl X x) (hm : X.mg x = some (.ref f)) (hk : PySem.W.keepIn X.K (.ref f) = true) (hb : KBn X.K fd ps n ks gW gV) (hx : Passes CX X E0)
    (ha : PA X (e :: es) (tDA g)) (hkws : PK X kws (tDA h)) (hall : (backToKw pos (keywordEach kws X.env)).all (·.1.isSome) = true := by rfl) (hks : (backToKw pos (keywordEach kws X.env)).filterMap (·.1) = ks := by rfl)
    (hdb : (x == ("__debug__" : Str)) = false := by decide) (he : starEach (e :: es) X.env = (false, eval e X.env) :: starEach es X.env := by rfl)
    (hpl : ((backTo pos (starEach (e :: es) X.env)).any (·.1) || (backToKw pos (keywordEach kws X.env)).any (·.1.isNone)) = false := by rfl) :
    PE X (.Call (.Name x p) (e :: es) kws pos) (tD (dCallN n ks.length m gD g h)) := (pe_callN F hr hg hm hk hb hx ha hkws hall hks hdb he hpl).imp (callN_le hkw E0)
theorem kw_app : KwOk (fun vs zs => vs ++ zs) (fun rs ks => rs ++ ks) := by
  intro t B H H' vs zs rs ks h1 h2
  induction h1 with
  | nil => exact h2
  | cons a b _ ih => exact .cons a b ih
end

/-! ### [h x for x in xs if p x] -/
section
variable [Fam] [Tabz]
theorem lcFM {g : DG} {t : DT} {h : DF} {vs : List Nat} {ρ : List DV} {n : Fam.S} {Q : DQ} {ds : List PyData} (p : PyData → Bool) (out : PyData → PyData) (own : (vs.all fun j => match ρ[j]? with | some x => !x.isOwn | none => false) = true) (big : ds.length ≤ 100000)
    (step : ∀ d, d ∈ ds → ∃ ρ', g d (wipeD ρ vs) = some ρ' ∧ (∀ R : Bool → Fam.S → Prop, R (p d) n → t ρ' n R) ∧ (p d = true → ∀ R : DQ, (∀ r, r.dat = some (out d) → R r n) → h ρ' n R)) (q : Q (.own ((ds.filter p).map out)) n) : LcOk g t h vs ρ Q ds n := by
  refine ⟨own, big, fun i acc m => m = n ∧ acc = ((ds.take i).filter p).map out, ⟨rfl, rfl⟩, ?_, ?_⟩
  · rintro i d acc m hd ⟨rfl, rfl⟩
    obtain ⟨ρ', e1, h1, h2⟩ := step d (List.mem_of_getElem? hd)
    refine ⟨ρ', e1, h1 _ ?_⟩
    have et : ((ds.take (i + 1)).filter p).map out = ((ds.take i).filter p).map out ++ if p d = true then [out d] else [] := by
      rw [List.take_succ, hd, List.filter_append, List.map_append]
      congr 1
      cases e : p d with
      | true => simp [e]
      | false => simp [e]
    cases e : p d with
    | true =>
      rw [if_pos rfl]
      refine h2 e _ fun r er => ⟨_, er, rfl, ?_⟩
      rw [et, e, if_pos rfl]
    | false =>
      rw [if_neg Bool.false_ne_true]
      refine ⟨rfl, ?_⟩
      rw [et, e, if_neg Bool.false_ne_true, List.append_nil]
  · rintro acc m ⟨rfl, rfl⟩
    rw [List.take_length] at *
    exact q
end

/-! ### tuple(xs) over data -/
section
variable [Fam] [Tabz]
def bTuple : List PyData → Option DV
  | [.list ds] => some (.d (.tuple ds))
  | [.tuple ds] => some (.d (.tuple ds))
  | _ => none
theorem rsTuple {K : PySem.W.Frag} : RsD (fun xs H Q => ∃ p ys, xs = [.ref p] ∧ ((SqL K H p ys ∧ ∀ l, H l = none → Q (.ref l) (upd H l (.tup ys))) ∨ (SqT K H p ys ∧ Q (.ref p) H))) bTuple := by
  intro t B H vs as z Q hB r e k
  cases r with
  | nil => cases e
  | cons r t =>
    cases t with
    | cons _ _ => cases r <;> cases e
    | nil =>
      cases r <;> cases e
      · rename_i h1 h2
        exact ⟨_, _, rfl, .inl ⟨SqL.of (msk_some h1).2, fun l hl => k _ _ (same_new hl) (new_tup hB hl h2)⟩⟩
      · rename_i h1 h2
        exact ⟨_, _, rfl, .inr ⟨SqT.of (msk_some h1).2, k _ H (fun _ _ h => h) (.tup h1 h2)⟩⟩
end

/-! ### set(xs), sorted(set(xs)), xs a list of ints -/
section
open PySem.Spec PyProof.Rows
variable {P : Program} {w : World} {A : Around} {E : Value → Shared → Prop} {s : Shared}
def nSet (w : World) : Obj := { cls := .type "set", dict := none, data := .set #[] 0 (.fresh 0 0 (!w.params.followText "set-order")) }
def sPush (w : World) (s : Shared) : Heap := s.heap.push (nSet w)
/-- what a new set of these ints leaves -/
def SetMade (w : World) (s : Shared) (ns : List Int) (s2 : Shared) : Prop := ∃ h2 t2 c, s2 = { s with heap := h2, toks := t2 } ∧ SetR w h2 s.heap.objs.size (fun j => decide (j ∈ ns)) c ∧ c ≤ ns.length ∧ ∀ b o, s.heap.get? b = some o → h2.get? b = some o
set_option maxRecDepth 100000 in
set_option maxHeartbeats 3200000 in
theorem call_set_ints {l : Addr} {us : Array Value} {ns : List Int} {Q : Value → Shared → Prop} (hA : A.handled = none) (hl : s.heap.IsList l us) (hu : IntsAre us.toList ns) (few : ns.length + 1 < scanBound)
    (k : ∀ s2, SetMade w s ns s2 → Q (.ref s.heap.objs.size) s2) : wpAny (model P w) A (call (.type "set") [.ref l]) Q E s := by
  have size_us : us.size = ns.length := by
    have z := IntsAre.length hu
    rwa [Array.length_toList] at z
  obtain ⟨mc, mt, hmro⟩ := F.called_set.mro
  have made := F.called_set.made
  have sub := F.called_set.sub
  have noT := F.called_set.notType
  have can := F.called_set.canCreate
  have tc := F.typeCall_set_1 (.ref l)
  refine wpAny_call (codeAny_of_tree ?_)
  show wpAny _ _ (callAny (.type "set") _) _ _ _
  refine wpAny_pure ⟨Code.quiet_builtin _ (by decide +kernel), codeAny_builtin F.entry_type_call ?_⟩
  rw [Around.under_plain (weight_type_call_type "set" [.ref l] []) rfl]
  repeat (any_goals (first | assumption | wp_step))
  refine codeAny_mono (code_set_led1 (.ref l) (E := E) (Q₁ := fun z s1 => z = .ref s.heap.objs.size ∧ s1 = { s with heap := sPush w s }) ⟨rfl, rfl⟩) fun r s1 hr => ?_
  cases r with
  | error e => exact hr
  | ok fl =>
    cases fl with
    | ret z =>
      obtain ⟨rfl, rfl⟩ := hr
      have at0 : (sPush w s).get? s.heap.objs.size = some (nSet w) := Heap.get?_push_size _ rfl
      have ty0 : Shared.TypeIs { s with heap := sPush w s } (.ref s.heap.objs.size) "set" := ⟨_, at0, rfl⟩
      have look := F.called_set.init.lookup
      have bind := F.called_set.init.bind (.ref s.heap.objs.size)
      repeat (any_goals (first | assumption | wp_step))
      refine codeAny_mono (codeAny_call_builtin (R := wants (fun r s2 => r = .none ∧ SetMade w s ns s2) E) F.called_set.init.plain F.entry_set_init (check_set_init_1 ty0 ?_)) fun r2 s2 hr2 => ?_
      · obtain ⟨ol, hol, hcl, nl, hdl⟩ := hl
        obtain ⟨ocls, odict, odata, oslots⟩ := ol
        simp only at hcl hdl
        subst hcl
        subst hdl
        have there := fun {b : Addr} {o : Obj} (e : s.heap.get? b = some o) => (Heap.get?_push_of_some (nSet w) e : (sPush w s).get? b = some o)
        have low : l < s.heap.objs.size := Heap.lt_size hol
        have big : (sPush w s).objs.size = s.heap.objs.size + 1 := Heap.size_push ..
        have lst1 : (sPush w s).IsList l us := ⟨_, there hol, rfl, nl, rfl⟩
        have sub1 := F.sub_list_set
        have sub2 := F.sub_list_frozenset
        have nd : (Value.type "list" == Value.type "dict") = false := by decide
        have thl := there hol
        unfold Builtin.«set.__init__» noKeywords Builtin.Frozenset.updateFrom
        generalize hPI : pyIter = PI
        wp_walk
        subst hPI
        refine wpAny_pyIter_list lst1 ?_
        refine wpAny_bind (wpAny_runValue ?_)
        have hA3 : A.in1.in1.in1.handled = none := by simp [hA]
        have ne1 : l ≠ (sPush w s).objs.size := by rw [big]; exact Nat.ne_of_lt (Nat.lt_succ_of_lt low)
        have ne2 : s.heap.objs.size ∉ [(sPush w s).objs.size, l] := by
          rw [big]
          simp only [List.mem_cons, List.not_mem_nil, or_false, not_or]
          exact ⟨Nat.ne_of_lt (Nat.lt_succ_self _), Nat.ne_of_gt low⟩
        have vals : ∀ (i : Nat) (v : Value), us[i]? = some v → ∃ k t, ns[i]? = some k ∧ v = .int k t := fun i v hv => by
          have hi : i < ns.length := by
            have := (Array.getElem?_eq_some_iff.mp hv).1
            omega
          obtain ⟨t, e⟩ := IntsAre.int_at hu i v (by rw [Array.getElem?_toList]; exact hv)
          exact ⟨ns[i], t, List.getElem?_eq_getElem hi, by rw [e, List.getD_eq_getElem?_getD, List.getElem?_eq_getElem hi]; rfl⟩
        refine set_update_ints ((Walks.list hA3 _ l ne1 us).toS) s.heap.objs.size ne2 ns size_us few vals (us.size - 0) 0 _ (by omega) (Nat.zero_le _) ⟨⟨_, Heap.get?_push_size _ rfl, rfl, rfl⟩, (lst1.push _)⟩ ?start ?after
        case start => exact ⟨0, Nat.le_refl 0, setR_new_at (Heap.get?_push_of_some _ at0)⟩
        case after =>
          intro s3 c mv hc3 hS3
          obtain ⟨h3, g3, d3, t3, o3⟩ := s3
          cases (mv.gens : g3 = s.gens)
          cases (mv.drawn : d3 = s.drawn)
          cases (mv.os : o3 = s.os)
          refine wpAny_pure ?_
          show wpAny _ _ (ret Value.none) _ _ _
          refine wpAny_pure ⟨rfl, h3, t3, c, rfl, hS3, by rw [size_us] at hc3; exact hc3, fun b o e => ?_⟩
          have hb := Heap.lt_size e
          refine mv.heap b o ?_ (Heap.get?_push_of_some _ (there e))
          simp only [List.mem_cons, List.not_mem_nil, or_false, not_or]
          exact ⟨Nat.ne_of_lt hb, by show b ≠ (sPush w s).objs.size; rw [big]; exact Nat.ne_of_lt (Nat.lt_succ_of_lt hb)⟩
      · cases r2 with
        | error e => exact hr2
        | ok fl2 =>
          cases fl2 with
          | ret r =>
            obtain ⟨rfl, hm⟩ := hr2
            have hm2 := hm
            obtain ⟨h2, t2, c, rfl, _⟩ := hm2
            repeat (any_goals (first | assumption | wp_step))
            exact k _ hm
          | _ => exact hr2.elim
    | _ => exact hr.elim
end
section
variable [Fam] [Tabz]
def rSetI (K : PySem.W.Frag) (w : World) : List V → Hp → VK → Prop := fun xs H Q => ∃ (l : Addr) (ns : List Int), xs = [.ref l] ∧ SqL K H l (ns.map V.int) ∧ ns.length ≤ 1000 ∧ ∀ p c, H p = none → c ≤ ns.length → Q (.ref p) (upd H p (SetO w p (fun j => decide (j ∈ ns)) c))
theorem cr_setI {X : Cx} (hc : X.calm = true) : CallR X (.type "set") (rSetI X.K X.w) := by
  intro pins s σ H xs us Q I r h
  obtain ⟨l, ns, rfl, hl, few, q⟩ := h
  rw [Vals.ref1 r]
  obtain ⟨its, rv, pl, hz⟩ := I.list hl
  have iu : PyProof.Rows.IntsAre its.toArray.toList ns := ints_of_vals rv
  refine call_set_ints (I.ok.hd hc) pl.isList iu (by unfold scanBound; omega) fun s2 ⟨h2, t2, c, e, R, hc2, kp⟩ => ?_
  subst e
  exact ⟨.ref s.heap.objs.size, upd H s.heap.objs.size (SetO X.w s.heap.objs.size (fun j => decide (j ∈ ns)) c), I.laid (t' := t2) kp (Nat.le_refl _) (setO_new R), rfl, q _ c (I.hok.fresh (Nat.le_refl _)) hc2⟩
/-- sorted(set(xs)) -/
def dSortSet (f : DF) : DF := fun ρ n Q => f ρ n fun r n1 => ∃ ds, r.dat = some (.list ds) ∧ ∃ ns, intsOf ds = some ns ∧ Cnd (ns.length < 64) ∧ ∀ out : List Int, out.Pairwise (· < ·) → (∀ k, k ∈ out ↔ k ∈ ns) → Q (.own (out.map PyData.int)) n1
theorem rp_intsS {M : Hp} : ∀ ns : List Int, RpA M (ns.map V.int) (ns.map PyData.int)
  | [] => .nil
  | n :: ns => .cons (.int n) (rp_intsS ns)
theorem pdSortSet {X : Cx} {e : Expr} {f : DF} {w : World} (h : PE X e (tCB (rSortedSet w) (tCons (tCB (rSetI X.K w) (tCons (tD f) tNil)) tNil))) : PE X e (tD (dSortSet f)) := h.imp fun σ H Q ⟨c, A, n, ρ, Q', E, hf, k⟩ => by
  refine ⟨c, A, n, ρ, _, E, hf, fun v r n1 H1 ⟨ds, ed, ns, en, cc, hq⟩ f1 o1 => ?_⟩
  have rp := o1.dat E ed
  have E1 := E.fr f1
  have few := cc.get
  cases rp with
  | @lst l xs _ h1 h2 =>
    have ex := ints_of h2 en
    subst ex
    refine ⟨l, ns, rfl, SqL.of (msk_some h1).2, by omega, fun p m np hm => ?_⟩
    refine ⟨p, _, m, rfl, upd_same, by omega, fun out q so mo _ nq => ?_⟩
    have f2 : Fr c A n1 n1 H1 (upd H1 p (SetO w p (fun j => decide (j ∈ ns)) m)) := Fr.new E1.g np
    have E2 := E1.fr f2
    have f3 := FrV.same E2.g (same_new nq) (own_new E2 nq (rp_intsS out))
    refine k _ _ n1 _ (hq out so fun x => ?_) ((f1.trans f2).trans f3) (VOk.mono E (f1.trans f2) (own_new E2 nq (rp_intsS out)))
    rw [mo x]
    exact decide_eq_true_iff
/-- sorted(xs), xs ints -/
def dSortI (f : DF) : DF := fun ρ n Q => f ρ n fun r n1 => ∃ ds, r.dat = some (.list ds) ∧ ∃ ns, intsOf ds = some ns ∧ ∀ out : List Int, out.Perm ns → out.Pairwise (· ≤ ·) → Q (.own (out.map PyData.int)) n1
theorem pdSortI {X : Cx} {e : Expr} {f : DF} (h : PE X e (tCB (rSortedI X.K) (tCons (tD f) tNil))) : PE X e (tD (dSortI f)) := h.imp fun σ H Q ⟨c, A, n, ρ, Q', E, hf, k⟩ => by
  refine ⟨c, A, n, ρ, _, E, hf, fun v r n1 H1 ⟨ds, ed, ns, en, hq⟩ f1 o1 => ?_⟩
  have rp := o1.dat E ed
  have E1 := E.fr f1
  cases rp with
  | @lst l xs _ h1 h2 =>
    have ex := ints_of h2 en
    subst ex
    exact ⟨l, ns, rfl, SqL.of (msk_some h1).2, fun out p pm so np => k _ _ n1 _ (hq out pm so) (f1.trans (FrV.same E1.g (same_new np) (own_new E1 np (rp_intsS out)))) (VOk.mono E f1 (own_new E1 np (rp_intsS out)))⟩
end

/-! ### a store: things that change, by their places -/
/-- tapes, as they were: what holds of a tape, where it stands -/
class Bas where
  Tq : V → V → Hp → Int → Prop
  Pq : V → V → Addr → Prop
  mv : ∀ {u t : V} {H H' : Hp} {n : Int}, Tq u t H n → (∀ b o, Pq u t b → H b = some o → H' b = some o) → Tq u t H' n
  ty : ∀ {u t : V} {H : Hp} {n : Int} {a : Addr}, Tq u t H n → Pq u t a → ∃ xs, H a = some (.lst xs)
/-- no store: draws alone -/
@[reducible] def famB [Bas] : Fam where
  S := Int
  Tq := fun u t _ H n => Bas.Tq u t H n
  Pq := fun u t _ a => Bas.Pq u t a
  mv := fun g _ k => Bas.mv g k
  ty := fun g p => by
    obtain ⟨xs, h⟩ := Bas.ty g p
    exact ⟨_, h, fun ps z => by cases z⟩
/-- a thing of the store -/
inductive SO where
  | lst (ds : List PyData) | dK (kvs : List (Key × PyData)) | dF (od : Obj) (ws : List (Key × V)) (kvs : List (Key × PyData)) | ins (C : Addr) (fs : List (Str × PyData))
inductive SRp (M : Hp) : List (Str × V) → List (Str × PyData) → Prop
  | nil : SRp M [] []
  | cons {f : Str} {v : V} {d : PyData} {ws : List (Str × V)} {fs : List (Str × PyData)} : Rp M v d → SRp M ws fs → SRp M ((f, v) :: ws) ((f, d) :: fs)
theorem SRp.ex {M M' : Hp} {ws : List (Str × V)} {fs : List (Str × PyData)} (r : SRp M ws fs) (e : Xt M M') : SRp M' ws fs := by
  induction r with
  | nil => exact .nil
  | cons h _ ih => exact .cons (h.ex e) ih
abbrev Sto := Addr → Option SO
def SReal (M H : Hp) (a : Addr) : SO → Prop
  | .lst ds => ∃ vs, H a = some (.lst vs) ∧ RpA M vs ds
  | .dK kvs => ∃ ws, H a = some (.dK ws) ∧ KRp M ws kvs
  | .dF od ws kvs => H a = some (.frz od (.dK ws)) ∧ KRp M ws kvs
  | .ins C fs => ∃ dx ws, H a = some (.ins C dx ws) ∧ SRp M ws fs
theorem SReal.ex {M M' H H' : Hp} {a : Addr} {o : SO} (r : SReal M H a o) (m : Xt M M') (k : ∀ u, H a = some u → H' a = some u) : SReal M' H' a o := by
  cases o with
  | lst ds =>
    obtain ⟨vs, h1, h2⟩ := r
    exact ⟨vs, k _ h1, h2.ex m⟩
  | dK kvs =>
    obtain ⟨vs, h1, h2⟩ := r
    exact ⟨vs, k _ h1, h2.ex m⟩
  | dF od ws kvs => exact ⟨k _ r.1, r.2.ex m⟩
  | ins C fs =>
    obtain ⟨dx, ws, h1, h2⟩ := r
    exact ⟨dx, ws, k _ h1, h2.ex m⟩
/-- what stands there is no table -/
theorem SReal.at {M H : Hp} {a : Addr} {o : SO} (r : SReal M H a o) : ∃ u : HO, H a = some u ∧ (∀ ps : Array Value, u ≠ HO.tbl ps) ∧ ∀ φ : Heap → Prop, u ≠ HO.ext φ := by
  cases o with
  | lst ds =>
    obtain ⟨vs, h1, h2⟩ := r
    exact ⟨_, h1, ⟨fun ps z => (by cases z), fun φ z => (by cases z)⟩⟩
  | dK kvs =>
    obtain ⟨vs, h1, h2⟩ := r
    exact ⟨_, h1, ⟨fun ps z => (by cases z), fun φ z => (by cases z)⟩⟩
  | dF od ws kvs => exact ⟨_, r.1, ⟨fun ps z => (by cases z), fun φ z => (by cases z)⟩⟩
  | ins C fs =>
    obtain ⟨dx, ws, h1, h2⟩ := r
    exact ⟨_, h1, ⟨fun ps z => (by cases z), fun φ z => (by cases z)⟩⟩
abbrev hnd (a : Addr) : PyData := .dict [(.none, .int (a : Nat))]
/-- draws and a store -/
@[reducible] def famS [Bas] : Fam where
  S := Int × Sto
  Tq := fun u t M H n => Bas.Tq u t H n.1 ∧ ∀ a o, n.2 a = some o → SReal M H a o ∧ ¬ Bas.Pq u t a
  Pq := fun u t n a => Bas.Pq u t a ∨ n.2 a ≠ none
  mv := fun {u t M M' H H' n} g m k => ⟨Bas.mv g.1 fun b o p => k b o (.inl p), fun a o h => ⟨by
    obtain ⟨r, _⟩ := g.2 a o h
    have q : Bas.Pq u t a ∨ n.2 a ≠ none := .inr (by rw [h]; exact fun z => by cases z)
    exact r.ex m fun u e => k a u q e, (g.2 a o h).2⟩⟩
  ty := fun {u t M H n a} g p => by
    rcases p with p | p
    · obtain ⟨xs, h⟩ := Bas.ty g.1 p
      exact ⟨_, h, fun ps z => by cases z⟩
    · cases h : n.2 a with
      | none => exact absurd h p
      | some o =>
        obtain ⟨r, _⟩ := g.2 a o h
        obtain ⟨w, h1, h2, _⟩ := r.at
        exact ⟨w, h1, h2⟩
def sset (S : Sto) (a : Addr) (o : SO) : Sto := fun b => if b = a then some o else S b
theorem sset_eq {S : Sto} {a : Addr} {o : SO} : sset S a o a = some o := if_pos rfl
theorem sset_ne {S : Sto} {a b : Addr} {o : SO} (h : b ≠ a) : sset S a o b = S b := if_neg h
section
variable [Bas] [Tabz]
local instance (priority := high) stoFam : Fam := famS
variable {c : EC} {A : Nat → Option Addr} {n : Fam.S} {σ : L2.St} {H : Hp} {ρ : List DV}
theorem EnvA.sat (E : EnvA c A n σ H ρ) {a : Addr} {o : SO} (h : n.2 a = some o) : SReal (msk (c.av n A) H) H a o ∧ ¬ Bas.Pq c.u c.t a := E.g.1.2 a o h
/-- less is kept as a store: what is left out stays as data -/
theorem EnvA.less (E : EnvA c A n σ H ρ) {S : Sto} (h : ∀ a o, S a = some o → n.2 a = some o) : EnvA c A (n.1, S) σ H ρ := by
  have pp : ∀ {b : Addr}, c.P (n.1, S) b → c.P n b := fun {b} p => p.imp id fun q e => q (by
    cases r : S b with
    | none => exact r
    | some o => rw [h b o r] at e; cases e)
  have xt : Xt (msk (c.av n A) H) (msk (c.av (n.1, S) A) H) := fun b o _ e => by
    obtain ⟨h1, h2⟩ := msk_some e
    rw [msk_out fun z => h1 (z.imp (fun z => z.imp id pp) id)]
    exact h2
  refine ⟨fun b o q e => ⟨fun p => ⟨((E.keep b o q e).1 p).1, fun z => ((E.keep b o q e).1 p).2 (pp z)⟩, (E.keep b o q e).2⟩, ⟨⟨E.g.1.1, fun a o e => ⟨?_, (E.g.1.2 a o (h a o e)).2⟩⟩, E.g.2⟩, E.new, fun i a e => ⟨(E.has i a e).1, fun z => (E.has i a e).2 (pp z)⟩, E.inj, fun i x e => (E.slot i x e).ex xt fun _ _ _ _ h => h, E.len, fun p hp => (E.pin p hp).ex xt, E.fin, E.mine⟩
  exact (E.g.1.2 a o (h a o e)).1.ex xt fun _ h => h
end

/-! ### a store: its rules -/
section
variable [Bas] [Tabz]
local instance (priority := high) yoFam2 : Fam := famS
theorem Tabs_mvE {T : List (Addr × Str)} {H H' : Hp} (h : LamX.Tabs T H) (k : ∀ b o, (∃ ps, o = HO.tbl ps) ∨ (∃ φ, o = HO.ext φ) → H b = some o → H' b = some o) : LamX.Tabs T H' := fun p hp => by
  obtain ⟨ps, h1, h2, h3⟩ := h p hp
  refine ⟨ps, k _ _ (.inl ⟨_, rfl⟩) h1, h2, fun pos cv hc => ?_⟩
  obtain ⟨c, e1, e2⟩ := h3 pos cv hc
  exact ⟨c, e1, k _ _ (.inr ⟨_, rfl⟩) e2⟩
theorem av_sset {c : EC} {A : Nat → Option Addr} {n : Fam.S} {a : Addr} {o : SO} {b : Addr} (h : c.av (n.1, sset n.2 a o) A b) : c.av n A b ∨ b = a := by
  rcases h with (h | h | h) | h
  · exact .inl (.inl (.inl h))
  · exact .inl (.inl (.inr (.inl h)))
  · by_cases e : b = a
    · exact .inr e
    · have h' : sset n.2 a o b ≠ none := h
      rw [sset_ne e] at h'
      exact .inl (.inl (.inr (.inr h')))
  · exact .inl (.inr h)
/-- what one has made goes to the store -/
theorem absorb {c : EC} {A : Nat → Option Addr} {n n1 : Fam.S} {σ : L2.St} {H H1 : Hp} {ρ : List DV} {a : Addr} {r : DV} {o : SO} (E : EnvA c A n σ H ρ) (f : FrV c A n n1 H H1 (.ref a) r) (hr : r.isOwn = true) (fr : Fresh H a) (na : ¬ c.av n1 A a)
    (rl : SReal (msk (fun b => c.av n1 A b ∨ b = a) H1) H1 a o) : FrV c A n (n1.1, sset n1.2 a o) H H1 (.ref a) (.d (hnd a)) := by
  have pp : ∀ {b : Addr}, c.P (n1.1, sset n1.2 a o) b → c.P n1 b ∨ b = a := fun {b} p => by
    rcases p with p | p
    · exact .inl (.inl p)
    · by_cases e : b = a
      · exact .inr e
      · have p' : sset n1.2 a o b ≠ none := p
        rw [sset_ne e] at p'
        exact .inl (.inr p')
  have g2 : c.G n1 (msk (hide r (.ref a) (c.av n1 A)) H1) H1 := f.2
  have hx : ∀ {b : Addr}, ¬ (c.av n1 A b ∨ b = a) → ¬ hide r (.ref a) (c.av n1 A) b := fun {b} h z => by
    cases r with
    | own ds => exact h (z.imp id fun z => by cases z; rfl)
    | dic ds => exact h (z.imp id fun z => by cases z; rfl)
    | _ => exact h (.inl z)
  have hx2 : ∀ {b : Addr}, ¬ hide r (.ref a) (c.av n1 A) b → ¬ (c.av n1 A b ∨ b = a) := fun {b} h z => by
    cases r with
    | own ds => exact h (z.imp id fun z => by rw [z])
    | dic ds => exact h (z.imp id fun z => by rw [z])
    | _ => cases hr
  have xt : Xt (msk (hide r (.ref a) (c.av n1 A)) H1) (msk (c.av (n1.1, sset n1.2 a o) A) H1) := fun b u _ e => by
    obtain ⟨h1, h2⟩ := msk_some e
    rw [msk_out fun z => hx2 h1 (av_sset z)]
    exact h2
  have xt2 : Xt (msk (fun b => c.av n1 A b ∨ b = a) H1) (msk (c.av (n1.1, sset n1.2 a o) A) H1) := fun b u _ e => by
    obtain ⟨h1, h2⟩ := msk_some e
    rw [msk_out fun z => h1 (av_sset z)]
    exact h2
  refine ⟨fun b u q e => ⟨fun p => ⟨((f.1 b u q e).1 p).1, fun z => ?_⟩, (f.1 b u q e).2⟩, ⟨g2.1.1, fun b u e => ?_⟩, g2.2⟩
  · rcases pp z with z | z
    · exact ((f.1 b u q e).1 p).2 z
    · subst z
      obtain ⟨ps, z⟩ := fr u e
      exact q ps z
  · have e' : sset n1.2 a o b = some u := e
    by_cases z : b = a
    · subst z
      rw [sset_eq] at e'
      cases e'
      exact ⟨rl.ex xt2 fun _ h => h, fun p => na (.inl (.inr (.inl p)))⟩
    · rw [sset_ne z] at e'
      obtain ⟨h1, h2⟩ := g2.1.2 b u e'
      exact ⟨h1.ex xt fun _ h => h, h2⟩
def dAbs (f : DF) : DF := fun ρ n Q => f ρ n fun r n1 => match r with
  | .own ds => ∀ a, n1.2 a = none → Q (.d (hnd a)) (n1.1, sset n1.2 a (.lst ds))
  | .dic kvs => ∀ a, n1.2 a = none → Q (.d (hnd a)) (n1.1, sset n1.2 a (.dK kvs))
  | r => Q r n1
theorem nav_none {c : EC} {A : Nat → Option Addr} {n : Fam.S} {a : Addr} (h : ¬ c.av n A a) : n.2 a = none := by
  cases q : n.2 a with
  | none => rfl
  | some o => exact absurd (.inl (.inr (.inr (by rw [q]; exact fun z => by cases z)))) h
theorem pdAbs {X : Cx} {e : Expr} {f : DF} (h : PE X e (tD f)) : PE X e (tD (dAbs f)) := h.imp fun σ H Q ⟨c, A, n, ρ, Q', E, hf, k⟩ => by
  refine ⟨c, A, n, ρ, _, E, hf, fun v r n1 H1 hq f1 o1 => ?_⟩
  cases r with
  | own ds =>
    obtain ⟨a, vs, rfl, h2, h3, h4⟩ := o1
    exact k _ _ _ H1 (hq a (nav_none h2.2)) (absorb E f1 rfl h2.1 h2.2 ⟨vs, h3, h4⟩) (Rp.hnd a)
  | dic ds =>
    obtain ⟨a, vs, rfl, h2, h3, h4⟩ := o1
    exact k _ _ _ H1 (hq a (nav_none h2.2)) (absorb E f1 rfl h2.1 h2.2 ⟨vs, h3, h4⟩) (Rp.hnd a)
  | un => exact k _ _ _ H1 hq f1 o1
  | tape => exact k _ _ _ H1 hq f1 o1
  | raw v => exact k _ _ _ H1 hq f1 o1
  | d x => exact k _ _ _ H1 hq f1 o1
/-- a list of the store is left as data -/
def sdel (S : Sto) (a : Addr) : Sto := fun b => if b = a then none else S b
theorem sdel_le {S : Sto} {a b : Addr} {o : SO} (h : sdel S a b = some o) : S b = some o ∧ b ≠ a := by
  unfold sdel at h
  split at h
  · cases h
  · exact ⟨h, by assumption⟩
theorem EnvA.nst {c : EC} {A : Nat → Option Addr} {n : Fam.S} {σ : L2.St} {H : Hp} {ρ : List DV} (E : EnvA c A n σ H ρ) {a : Addr} {o : SO} (h : n.2 a = some o) {m : Fam.S} (hm : m.2 a = none) : ¬ c.av m A a := by
  have hp : c.P n a := .inr (by rw [h]; exact fun z => by cases z)
  rintro ((z | z | z) | ⟨i, z⟩)
  · obtain ⟨o, _, h2⟩ := E.nB z
    exact h2 hp
  · exact (E.g.1.2 a o h).2 z
  · exact z hm
  · exact (E.has i a z).2 hp
theorem FrV.less {c : EC} {A : Nat → Option Addr} {n n1 : Fam.S} {H H1 : Hp} {v : V} {r : DV} (f : FrV c A n n1 H H1 v r) {S : Sto} (h : ∀ a o, S a = some o → n1.2 a = some o) : FrV c A n (n1.1, S) H H1 v r := by
  have pp : ∀ {b : Addr}, c.P (n1.1, S) b → c.P n1 b := fun {b} p => p.imp id fun q e => q (by
    show S b = none
    cases r : S b with
    | none => rfl
    | some o => rw [h b o r] at e; cases e)
  have av : ∀ {b : Addr}, c.av (n1.1, S) A b → c.av n1 A b := fun {b} z => z.imp (fun z => z.imp id pp) id
  have xt : Xt (_root_.Rh.msk (hide r v (c.av n1 A)) H1) (_root_.Rh.msk (hide r v (c.av (n1.1, S) A)) H1) := fun b o _ e => by
    obtain ⟨h1, h2⟩ := msk_some e
    rw [msk_out]
    · exact h2
    · intro z
      apply h1
      cases r with
      | own _ => exact z.imp av id
      | dic _ => exact z.imp av id
      | _ => exact av z
  exact ⟨fun b o q e => ⟨fun p => ⟨((f.1 b o q e).1 p).1, fun z => ((f.1 b o q e).1 p).2 (pp z)⟩, (f.1 b o q e).2⟩, ⟨f.2.1.1, fun a o e => ⟨(f.2.1.2 a o (h a o e)).1.ex xt fun _ h => h, (f.2.1.2 a o (h a o e)).2⟩⟩, f.2.2⟩
def dFrzH (f : DF) : DF := fun ρ n Q => f ρ n fun r n1 => ∃ a ds, r = .d (hnd a) ∧ n1.2 a = some (.lst ds) ∧ Q (.d (.list ds)) (n1.1, sdel n1.2 a)
theorem pdFrzH {X : Cx} {e : Expr} {f : DF} (h : PE X e (tD f)) : PE X e (tD (dFrzH f)) := h.imp fun σ H Q ⟨c, A, n, ρ, Q', E, hf, k⟩ => by
  refine ⟨c, A, n, ρ, _, E, hf, fun v r n1 H1 ⟨a, ds, er, es, hq⟩ f1 o1 => ?_⟩
  subst er
  cases o1
  have E1 := E.fr f1
  obtain ⟨⟨vs, h1, h2⟩, h3⟩ := E1.sat es
  refine k _ _ _ H1 hq (f1.less fun b o e => (sdel_le e).1) (Rp.lst ?_ (h2.ex fun b o _ e => ?_))
  · rw [msk_out (E1.nst es (m := (n1.1, sdel n1.2 a)) (by show sdel n1.2 a a = none; exact if_pos rfl))]
    exact h1
  · obtain ⟨g1, g2⟩ := msk_some e
    rw [msk_out]
    · exact g2
    · rintro ((z | z | z) | z)
      · exact g1 (.inl (.inl z))
      · exact g1 (.inl (.inr (.inl z)))
      · refine g1 (.inl (.inr (.inr fun q => z ?_)))
        show sdel n1.2 a b = none
        unfold sdel
        split
        · rfl
        · exact q
      · exact g1 (.inr z)
/-- a thing of the store is changed -/
theorem EnvA.smut {c : EC} {A : Nat → Option Addr} {n : Fam.S} {σ : L2.St} {H : Hp} {ρ : List DV} (E : EnvA c A n σ H ρ) {a : Addr} {o o' : SO} {u : HO} (h : n.2 a = some o) (hr : SReal (msk (c.av n A) H) (upd H a u) a o') (ut : ∀ ps, u ≠ HO.tbl ps) : EnvA c A (n.1, sset n.2 a o') σ (upd H a u) ρ := by
  have hp : c.P n a := .inr (by rw [h]; exact fun z => by cases z)
  have pp : ∀ {b : Addr}, c.P (n.1, sset n.2 a o') b ↔ c.P n b := fun {b} => by
    constructor
    · rintro (p | p)
      · exact .inl p
      · by_cases e : b = a
        · rw [e]; exact hp
        · have p' : sset n.2 a o' b ≠ none := p
          rw [sset_ne e] at p'
          exact .inr p'
    · rintro (p | p)
      · exact .inl p
      · refine .inr ?_
        show sset n.2 a o' b ≠ none
        by_cases e : b = a
        · rw [e, sset_eq]; exact fun z => by cases z
        · rw [sset_ne e]; exact p
  have av : c.av (n.1, sset n.2 a o') A = c.av n A := by
    funext b
    exact propext ⟨fun z => z.imp (fun z => z.imp id pp.mp) id, fun z => z.imp (fun z => z.imp id pp.mpr) id⟩
  have ava : c.av n A a := .inl (.inr hp)
  have mk : msk (c.av n A) (upd H a u) = msk (c.av n A) H := by
    funext b
    by_cases z : c.av n A b
    · unfold msk
      rw [if_pos z, if_pos z]
    · rw [msk_out z, msk_out z, upd_ne (fun e => z (by rw [e]; exact ava))]
  obtain ⟨w, hw, wt, we⟩ := (E.g.1.2 a o h).1.at
  have nBa : ¬ Bas.Pq c.u c.t a := (E.g.1.2 a o h).2
  have nAa : ∀ i, A i ≠ some a := fun i e => (E.has i a e).2 hp
  refine ⟨E.keep.trans fun b v q e => ⟨fun p => ?_, ?_⟩, ⟨⟨Bas.mv E.g.1.1 fun b v p e => ?_, fun b v e => ?_⟩, Tabs_mvE E.g.2 fun b v n1 e => ?_⟩, E.new, fun i b e => ⟨?_, fun z => (E.has i b e).2 (pp.mp z)⟩, E.inj, fun i x e => ?_, E.len, fun p hp => by rw [av, mk]; exact E.pin p hp, E.fin, E.mine⟩
  · have nb : b ≠ a := fun z => p (by rw [z]; exact hp)
    exact ⟨by rw [upd_ne nb]; exact e, fun z => p (pp.mp z)⟩
  · by_cases z : b = a
    · rw [z]
      exact ⟨u, upd_same, ut⟩
    · rw [upd_ne z]
      exact ⟨v, e, q⟩
  · rw [upd_ne fun z => nBa (by rw [← z]; exact p)]
    exact e
  · have e' : sset n.2 a o' b = some v := e
    rw [av, mk]
    by_cases z : b = a
    · subst z
      rw [sset_eq] at e'
      cases e'
      exact ⟨hr, nBa⟩
    · rw [sset_ne z] at e'
      obtain ⟨r1, r2⟩ := E.g.1.2 b v e'
      exact ⟨r1.ex (fun _ _ _ h => h) fun _ h => by rw [upd_ne z]; exact h, r2⟩
  · rw [upd_ne]
    · exact e
    · intro z
      rw [z, hw] at e
      cases e
      rcases n1 with ⟨ps, q⟩ | ⟨φ, q⟩
      · exact wt ps q
      · exact we φ q
  · have nb : b ≠ a := fun z => nAa i (by rw [← z]; exact e)
    rw [upd_ne nb]
    exact (E.has i b e).1
  · rw [av, mk]
    refine (E.slot i x e).ex (fun _ _ _ h => h) fun b v h1 _ h2 => ?_
    rw [upd_ne fun z => nAa i (by rw [← z]; exact h1)]
    exact h2
def SO.kvs : SO → Option (List (Key × PyData))
  | .dK kvs => some kvs
  | .dF _ _ kvs => some kvs
  | _ => none
/-- the dict that stands in the store -/
def dkv (S : Sto) (a : Addr) : Option (List (Key × PyData)) := (S a).bind SO.kvs
theorem dkv_of {S : Sto} {a : Addr} {kvs : List (Key × PyData)} (h : S a = some (.dK kvs)) : dkv S a = some kvs := by
  unfold dkv
  rw [h]
  rfl
theorem dkvF_of {S : Sto} {a : Addr} {od : Obj} {ws : List (Key × V)} {kvs : List (Key × PyData)} (h : S a = some (.dF od ws kvs)) : dkv S a = some kvs := by
  unfold dkv
  rw [h]
  rfl
theorem EnvA.dict {c : EC} {A : Nat → Option Addr} {n : Fam.S} {σ : L2.St} {H : Hp} {ρ : List DV} (E : EnvA c A n σ H ρ) {a : Addr} {kvs : List (Key × PyData)} (h : dkv n.2 a = some kvs) : ∃ ws, Rd H a (.dK ws) ∧ KRp (msk (c.av n A) H) ws kvs := by
  unfold dkv at h
  cases e : n.2 a with
  | none =>
    rw [e] at h
    cases h
  | some o =>
    rw [e] at h
    obtain ⟨r, _⟩ := E.sat e
    cases o with
    | lst ds => cases h
    | dK l =>
      cases h
      obtain ⟨ws, h1, h2⟩ := r
      exact ⟨ws, .inl h1, h2⟩
    | dF od ws l =>
      cases h
      exact ⟨ws, .inr ⟨_, r.1⟩, r.2⟩
    | ins C fs => cases h
/-- d[k], d of the store -/
def dSG (f g : DF) : DF := fun ρ n Q => f ρ n fun x n1 => g ρ n1 fun y n2 => ∃ a, x = .d (hnd a) ∧ ∃ k : Key, y = .d (kD k) ∧ ∃ kvs, dkv n2.2 a = some kvs ∧ ∃ z, valD kvs k = some z ∧ Q (.d z) n2
theorem pdSG {X : Cx} {o e : Expr} {pos : Pos} {f g : DF} (h : PE X (.Subscript o e pos) (tDGet (tD f) (tD g))) : PE X (.Subscript o e pos) (tD (dSG f g)) := h.imp fun σ H Q ⟨c, A, n, ρ, Q', E, hf, k⟩ => by
  refine ⟨c, A, n, ρ, _, E, hf, fun v x n1 H1 hg f1 o1 => ⟨c, A, n1, ρ, _, E.fr f1, hg, fun w y n2 H2 ⟨a, ex, key, ey, kvs, es, z, ez, hq⟩ f2 o2 => ?_⟩⟩
  subst ex ey
  cases o1
  have E2 := (E.fr f1).fr f2
  obtain rfl := kD_kV (show Rp _ w (kD key) from o2)
  obtain ⟨ws, h1, h2⟩ := E2.dict es
  rcases h2.val key with ⟨q1, q2⟩ | ⟨u, d, q1, q2, rp⟩
  · rw [q2] at ez
    cases ez
  · rw [q2] at ez
    cases ez
    exact ⟨a, u, rfl, .inl ⟨ws, key, h1, rfl, q1.symm⟩, k u _ n2 H2 hq (f1.trans f2.fr) rp⟩
/-- d[k] = x, d of the store -/
def dSP (f g fv : DF) : DS := fun E ρ n => fv ρ n fun y n1 => f ρ n1 fun x n2 => g ρ n2 fun j n3 => ∃ a, x = .d (hnd a) ∧ ∃ k : Key, j = .d (kD k) ∧ ∃ z, y.dat = some z ∧ ∃ kvs, n3.2 a = some (.dK kvs) ∧ kvs.length < 100000 ∧ E.nx ρ (n3.1, sset n3.2 a (.dK (putKD kvs k z)))
theorem psSP {X : Cx} {o e value : Expr} {pos pos' : Pos} {f g fv : DF} (hu : X.A.units + 1 < cLine) (ho : PE X o (tD f)) (he : PE X e (tD g)) (hv : PE X value (tD fv)) (hs : swapsWith value (some (.Subscript o e pos')) pos.line X.env = pure false := by rfl) :
    PS X (.Assign [.Subscript o e pos'] value pos) (sD (dSP f g fv)) := (ps_dput hu ho he hv hs).imp fun D σ H ⟨c, A, n, ρ, E, e, hf, L⟩ => by
  refine ⟨c, A, n, ρ, _, e, hf, fun v y n1 H1 hg f1 o1 => ⟨c, A, n1, ρ, _, e.fr f1, hg, fun w x n2 H2 hg2 f2 o2 => ⟨c, A, n2, ρ, _, (e.fr f1).fr f2, hg2, fun kv j n3 H3 ⟨a, ex, key, ej, z, ez, kvs, es, hl, hn⟩ f3 o3 => ?_⟩⟩⟩
  subst ex ej
  cases o2
  have E3 := ((e.fr f1).fr f2).fr f3
  obtain rfl := kD_kV (show Rp _ kv (kD key) from o3)
  obtain ⟨⟨ws, h1, h2⟩, _⟩ := E3.sat es
  have rv : Rp (msk (c.av n3 A) H3) v z := ((o1.dat e ez).ex f2.msk).ex f3.msk
  refine ⟨a, _, rfl, .inl ⟨ws, key, h1, rfl, big_lt (by rw [h2.length]; exact hl), rfl⟩, ?_⟩
  exact L.nx _ _ _ _ _ hn (E3.smut es ⟨_, upd_same, h2.put rv⟩ (fun _ z => by cases z))
/-- xs.append(e), xs of the store -/
def dSApp (f g : DF) : DS := fun E ρ n => f ρ n fun x n1 => ∃ a ds0, x = .d (hnd a) ∧ n1.2 a = some (.lst ds0) ∧ g ρ n1 fun r n2 => ∃ ds, n2.2 a = some (.lst ds) ∧ ∃ d, r.dat = some d ∧ ds.length < 100000 ∧ E.nx ρ (n2.1, sset n2.2 a (.lst (ds ++ [d])))
theorem psSApp {X : Cx} {e : Expr} {f g : DF} {pos : Pos} (hs : swapsWith e none pos.line X.env = pure false) (h : PE X e (tBM X.K "list" rAppend (tD f) (tCons (tD g) tNil))) : PS X (.Expr e pos) (sD (dSApp f g)) := (ps_expr h hs).imp fun D σ H ⟨c, A, n, ρ, E, e, hf, L⟩ => by
  refine ⟨c, A, n, ρ, _, e, hf, fun v x n1 H1 ⟨a, ds0, ex, e0, hg⟩ f1 o1 => ?_⟩
  subst ex
  cases o1
  have E1 := e.fr f1
  obtain ⟨⟨vs, h1, h2⟩, _⟩ := E1.sat e0
  refine ⟨.inl ⟨rfl, _, SqL.of h1⟩, c, A, n1, ρ, _, E1, hg, fun w r n2 H2 ⟨ds, es, d, ed, hl, hn⟩ f2 o2 => ?_⟩
  have E2 := E1.fr f2
  obtain ⟨⟨vs', k1, k2⟩, _⟩ := E2.sat es
  refine ⟨a, vs', w, rfl, rfl, k1, big_lt (by rw [k2.length]; exact hl), ?_⟩
  exact L.nx _ _ _ _ _ hn (E2.smut es ⟨_, upd_same, k2.app (.one (o2.dat E1 ed))⟩ (fun _ z => by cases z))
end

/-! ### dict(zip(xs, t)), xs a list, t a tuple -/
section
variable {prog : Program} {w : World} {A : Around} {E : Value → Shared → Prop} {s : Shared} {zo ti tp j1 j2 : Addr} {fp1 fp2 : List Addr} {n1 n2 k : Nat} {P1 P2 : Nat → Value → Prop} {St1 St2 : Nat → Heap → Prop} {fl : Bool} {tt : Addr} {ob : Obj}
theorem heldNext {Q : Value → Shared → Prop} (S : ZipSep2 zo ti tp j1 j2 fp1 fp2) (D1 : Draws prog w A j1 fp1 n1 P1 St1) (D2 : Draws prog w A j2 fp2 n2 P2 St2) (hq : IsZipHeld s.heap zo ti tp tt fl) (hob : s.heap.get? tt = some ob)
    (hti : IsTupOf2 s.heap ti (.ref j1) (.ref j2)) (q1 : St1 k s.heap) (q2 : St2 k s.heap) (l1 : k < n1) (l2 : k < n2)
    (fin : ∀ x1 x2 g tk, P1 k x1 → P2 k x2 → IsZipHeld g zo ti tp tt true → St1 (k + 1) g → St2 (k + 1) g → IsTupOf2 g s.heap.objs.size x1 x2 → (∀ b u, b ≠ zo → b ≠ j1 → b ≠ j2 → s.heap.get? b = some u → g.get? b = some u) → Q (.ref s.heap.objs.size) { s with heap := g, toks := tk }) :
    wpAny (model prog w) A (Builtin.«zip.__next__» ⟨[.ref zo], []⟩) (fun out s' => ∃ x, out = .done (.ret x) ∧ Q x s') E s := by
  show wpAny _ _ (field (.ref zo) 2 >>= _) _ _ _; refine wpAny_bind (wpAny_field hq rfl (x := .bool false) rfl ?_)
  show wpAny _ _ (field (.ref zo) 3 >>= _) _ _ _; refine wpAny_bind (wpAny_field hq rfl (x := .ref ti) rfl ?_)
  refine wpAny_bind (wpAny_seqItems hti rfl ?_); show wpAny _ _ (Builtin.SmallTypes.ownedTupleIsFree (.ref zo) >>= _) _ _ _
  refine wpAny_bind (wpAny_tupleHeld_zip hq hob fun g0 hq0 c0 => ?_)
  simp only [Bool.false_eq_true, if_false]; refine wpAny_bind ?_
  rw [← Array.forIn_toList]; simp only [List.forIn_cons, List.forIn_nil]
  refine wpAny_bind (wpAny_bind (wpAny_holding ?_)); show wpAny _ _ (Builtin.SmallTypes.nextOf (.ref j1) >>= _) _ _ _
  refine wpAny_bind (D1.item k { s with heap := g0 } _ _ l1 (D1.over q1 c0 S.zf1) fun x1 g1 tk1 hx1 r1 c1 => wpAny_pure ?_); refine wpAny_pure ?_
  refine wpAny_bind (wpAny_bind (wpAny_holding ?_)); show wpAny _ _ (Builtin.SmallTypes.nextOf (.ref j2) >>= _) _ _ _
  refine wpAny_bind (D2.item k { s with heap := g1, toks := tk1 } _ _ l2 (D2.over (D2.over q2 c0 S.zf2) c1 S.sep1_2) fun x2 g2 tk2 hx2 r2 c2 => wpAny_pure ?_); refine wpAny_pure (wpAny_pure ?_)
  show wpAny _ _ (newTuple [x1, x2] >>= _) _ _ _; refine wpAny_bind (wpAny_newTuple ?_)
  have c0' : Heap.SameBut zo s.heap g0 := c0
  have c1' : Heap.SameBut j1 g0 g1 := c1
  have c2' : Heap.SameBut j2 g1 g2 := c2
  have size2 : g2.objs.size = s.heap.objs.size := by rw [c2'.1, c1'.1, c0'.1]
  have hq2 : IsZipHeld g2 zo ti tp tt true := c2'.extBut _ _ S.zi2 (c1'.extBut _ _ S.zi1 hq0)
  have stay : ∀ b u, b ≠ zo → b ≠ j1 → b ≠ j2 → s.heap.get? b = some u → g2.get? b = some u := fun b u a0 a1 a2 e => c2'.extBut _ _ a2 (c1'.extBut _ _ a1 (c0'.extBut _ _ a0 e))
  have r1' : St1 (k + 1) g2 := D1.over r1 c2' S.sep2_1
  refine wpAny_pure ⟨_, rfl, ?_⟩; show Q (.ref g2.objs.size) _
  have push2 : IsTupOf2 (g2.push { cls := .type "tuple", data := .seq #[x1, x2] }) g2.objs.size x1 x2 := Heap.get?_push_size _ rfl
  rw [size2] at push2 ⊢
  exact fin x1 x2 _ tk2 hx1 hx2 (Heap.get?_push_of_some _ hq2) (D1.frame _ _ _ r1' fun b _ u e => Heap.get?_push_of_some _ e) (D2.frame _ _ _ r2 fun b _ u e => Heap.get?_push_of_some _ e) push2 fun b u a0 a1 a2 e => Heap.get?_push_of_some _ (stay b u a0 a1 a2 e)
theorem heldEnd {Q : Fin → Shared → Prop} (S : ZipSep2 zo ti tp j1 j2 fp1 fp2) (D1 : Draws prog w A j1 fp1 n1 P1 St1) (D2 : Draws prog w A j2 fp2 n2 P2 St2) (hq : IsZipHeld s.heap zo ti tp tt fl) (hob : s.heap.get? tt = some ob)
    (hti : IsTupOf2 s.heap ti (.ref j1) (.ref j2)) (q1 : St1 k s.heap) (q2 : St2 k s.heap) (l1 : k = n1) (l2 : k = n2)
    (fin : ∀ g e, (∀ b u, b ≠ zo → b ≠ j1 → b ≠ j2 → s.heap.get? b = some u → g.get? b = some u) → (∃ u, g.get? e = some u ∧ u.cls = .type "StopIteration") → E (.ref e) { s with heap := g }) :
    wpAny (model prog w) A (Builtin.«zip.__next__» ⟨[.ref zo], []⟩) Q E s := by
  show wpAny _ _ (field (.ref zo) 2 >>= _) _ _ _; refine wpAny_bind (wpAny_field hq rfl (x := .bool false) rfl ?_)
  show wpAny _ _ (field (.ref zo) 3 >>= _) _ _ _; refine wpAny_bind (wpAny_field hq rfl (x := .ref ti) rfl ?_)
  refine wpAny_bind (wpAny_seqItems hti rfl ?_); show wpAny _ _ (Builtin.SmallTypes.ownedTupleIsFree (.ref zo) >>= _) _ _ _
  refine wpAny_bind (wpAny_tupleHeld_zip hq hob fun g0 hq0 c0 => ?_)
  simp only [Bool.false_eq_true, if_false]; refine wpAny_bind ?_
  rw [← Array.forIn_toList]; simp only [List.forIn_cons, List.forIn_nil]
  refine wpAny_bind (wpAny_bind (wpAny_holding ?_)); show wpAny _ _ (Builtin.SmallTypes.nextOf (.ref j1) >>= _) _ _ _
  have c0' : Heap.SameBut zo s.heap g0 := c0
  subst l1
  refine wpAny_bind (D1.done { s with heap := g0 } _ _ (D1.over q1 c0 S.zf1) fun g1 e c1 he => fin g1 e (fun b u a0 a1 _ x => c1 b u a1 (c0'.extBut _ _ a0 x)) he)
/-- zip(xs, t) as what dict() is made of: both of one length -/
theorem pairsOf (zo ti tp j1 j2 l1 l2 : Addr) (xs ys : Array Value) (hl : xs.size = ys.size) (e1 : l1 ≠ j1) (e2 : l2 ≠ j2) (S : ZipSep2 zo ti tp j1 j2 [j1, l1] [j2, l2]) :
    PairArg prog w "zip" zo [zo, ti, tp, j1, j2, l1, l2] [zo, tp, j1, j2] xs.size (fun i a b => xs[i]? = some a ∧ ys[i]? = some b)
      (fun g => IsZip g zo ti tp .none ∧ IsTupOf2 g ti (.ref j1) (.ref j2) ∧ (∃ a b, IsTupOf2 g tp a b) ∧ g.IsListIter j1 l1 0 ∧ g.IsTupleIter j2 l2 0 ∧ g.IsList l1 xs ∧ g.IsTuple l2 ys) where
  type := fun s ok => ⟨_, ok.1, rfl⟩
  notDict := by decide
  keep := fun g g' ⟨a1, a2, ⟨u, v, a3⟩, a4, a5, a6, a7⟩ up => ⟨up _ _ a1, up _ _ a2, ⟨u, v, up _ _ a3⟩, a4.at fun o e => up _ o e, a5.at fun o e => up _ o e, a6.at fun o e => up _ o e, a7.at fun o e => up _ o e⟩
  there := fun g ⟨a1, a2, ⟨u, v, a3⟩, ⟨o4, a4, _⟩, ⟨o5, a5, _⟩, ⟨o6, a6, _⟩, ⟨o7, a7, _⟩⟩ b hb => by
    simp only [List.mem_cons, List.not_mem_nil, or_false] at hb
    rcases hb with e | e | e | e | e | e | e <;> subst e
    · exact ⟨_, a1⟩
    · exact ⟨_, a2⟩
    · exact ⟨_, a3⟩
    · exact ⟨_, a4⟩
    · exact ⟨_, a5⟩
    · exact ⟨_, a6⟩
    · exact ⟨_, a7⟩
  sub := fun b hb => by
    simp only [List.mem_cons, List.not_mem_nil, or_false] at hb ⊢
    rcases hb with e | e | e | e
    · exact .inl e
    · exact .inr (.inr (.inl e))
    · exact .inr (.inr (.inr (.inl e)))
    · exact .inr (.inr (.inr (.inr (.inl e))))
  noKeys := fun A s Q E hA ok h => getAttrOr_miss_zip ok.1 rfl rfl rfl zip_no_keys (by decide +kernel) hA h
  iter := fun A s d Q E hA ok hd hdf h => by
    obtain ⟨a1, a2, ⟨u, v, a3⟩, a4, a5, a6, a7⟩ := ok
    simp only [List.mem_cons, List.not_mem_nil, or_false, not_or] at hdf
    obtain ⟨dz, dti, dtp, d1, d2, dl1, dl2⟩ := hdf
    have D1 := Draws.list (prog := prog) (w := w) (A := A.in1) hA j1 l1 e1 xs
    have D2 := Draws.tuple (prog := prog) (w := w) (A := A.in1) hA j2 l2 e2 ys
    refine wpAny_pyIter_zip a1 (h zo [zo, tp, j1, j2] (fun i g => IsTupOf2 g ti (.ref j1) (.ref j2) ∧ (g.IsListIter j1 l1 i ∧ g.IsList l1 xs) ∧ (g.IsTupleIter j2 l2 i ∧ g.IsTuple l2 ys) ∧
      ((IsZip g zo ti tp .none ∧ ∃ a b, IsTupOf2 g tp a b) ∨ ∃ T f o, IsZipHeld g zo ti tp T f ∧ g.get? T = some o ∧ T ≠ zo ∧ T ≠ j1 ∧ T ≠ j2 ∧ T ≠ d)) s.heap s.toks ?_ ⟨a2, ⟨a4, a6⟩, ⟨a5, a7⟩, .inl ⟨a1, u, v, a3⟩⟩ (fun _ _ e => e) fun b hb => .inl hb)
    have old : ∀ {g : Heap} {b : Addr} {o : Obj}, g.get? b = some o → g.objs.size ≠ b := fun e => Nat.ne_of_gt (Heap.lt_size e)
    refine { off := fun hm => ?_, frame := fun i g g' ⟨b1, b2, b3, b4⟩ up => ?_, item := fun i s Q E hi ⟨b1, b2, b3, b4⟩ hds hQ => ?_, done := fun s Q E ⟨b1, b2, b3, b4⟩ hQ => ?_ }
    · simp only [List.mem_cons, List.not_mem_nil, or_false] at hm
      rcases hm with e | e | e | e
      · exact dz e
      · exact dtp e
      · exact d1 e
      · exact d2 e
    · refine ⟨up _ _ (Ne.symm dti) b1, ⟨b2.1.at fun o e => up _ o (Ne.symm d1) e, b2.2.at fun o e => up _ o (Ne.symm dl1) e⟩, ⟨b3.1.at fun o e => up _ o (Ne.symm d2) e, b3.2.at fun o e => up _ o (Ne.symm dl2) e⟩, ?_⟩
      rcases b4 with ⟨z1, a, b, z2⟩ | ⟨T, f, o, z1, z2, z3, z4, z5, z6⟩
      · exact .inl ⟨up _ _ (Ne.symm dz) z1, a, b, up _ _ (Ne.symm dtp) z2⟩
      · exact .inr ⟨T, f, o, up _ _ (Ne.symm dz) z1, up _ _ z6 z2, z3, z4, z5, z6⟩
    · have hi2 : i < ys.size := by rw [← hl]; exact hi
      have nj1 : s.heap.objs.size ≠ j1 := by obtain ⟨o, e, _⟩ := b2.1; exact old e
      have nj2 : s.heap.objs.size ≠ j2 := by obtain ⟨o, e, _⟩ := b3.1; exact old e
      rcases b4 with ⟨z1, a, b, z2⟩ | ⟨T, f, o, z1, z2, z3, z4, z5, z6⟩
      · refine wpAny_pyNext_zipD2_item S D1 D2 z1 b1 z2 b2 b3 hi hi2 fun x1 x2 g tk p1 p2 c1 c2 c3 c4 c5 c6 kp => ?_
        exact hQ s.heap.objs.size x1 x2 g tk ⟨p1, p2⟩ (.inl ⟨_, c5, rfl, _, rfl⟩) ⟨kp _ _ S.TIz S.TITO S.TIi1 S.TIi2 b1, c3, c4, .inr ⟨s.heap.objs.size, false, _, c1, c5, old z1, nj1, nj2, Nat.ne_of_gt hds⟩⟩
          fun b u hb e => kp b u (fun q => hb (by simp [q])) (fun q => hb (by simp [q])) (fun q => hb (by simp [q])) (fun q => hb (by simp [q])) e
      · have ty : s.TypeIs (.ref zo) "zip" := ⟨_, z1, rfl⟩
        unfold pyNext
        refine wpAny_bind (wpAny_attempt (wpAny_callSpecial?_slot (name := Str.ofString "__next__") ty F.slot_zip_next (wpAny_call_entry F.slot_zip_next ty F.entry_zip_next (heldNext S D1 D2 z1 z2 b1 b2 b3 hi hi2 fun x1 x2 g tk p1 p2 c1 c3 c4 c5 kp => wpAny_pure ?_) (F.args_zip_next_1 _))))
        exact hQ s.heap.objs.size x1 x2 g tk ⟨p1, p2⟩ (.inl ⟨_, c5, rfl, _, rfl⟩) ⟨kp _ _ S.TIz S.TIi1 S.TIi2 b1, c3, c4, .inr ⟨T, true, o, c1, kp _ _ z3 z4 z5 z2, z3, z4, z5, z6⟩⟩
          fun b u hb e => kp b u (fun q => hb (by simp [q])) (fun q => hb (by simp [q])) (fun q => hb (by simp [q])) e
    · rcases b4 with ⟨z1, a, b, z2⟩ | ⟨T, f, o, z1, z2, z3, z4, z5, z6⟩
      · exact wpAny_pyNext_zipD2_end S D1 D2 z1 b1 z2 b2 b3 (Nat.le_refl _) (by rw [hl]; exact Nat.le_refl _) (.inl rfl) fun g tk kp => hQ g tk fun b u hb e => kp b u (fun q => hb (by simp [q])) (fun q => hb (by simp [q])) (fun q => hb (by simp [q])) (fun q => hb (by simp [q])) e
      · have ty : s.TypeIs (.ref zo) "zip" := ⟨_, z1, rfl⟩
        unfold pyNext
        refine wpAny_bind (wpAny_attempt (wpAny_callSpecial?_slot (name := Str.ofString "__next__") ty F.slot_zip_next (wpAny_call_entry F.slot_zip_next ty F.entry_zip_next (heldEnd S D1 D2 z1 z2 b1 b2 b3 rfl hl fun g e kp he => ?_) (F.args_zip_next_1 _))))
        obtain ⟨o9, h9, c9⟩ := he
        refine wpAny_bind (wpAny_isInstance (T := "StopIteration") (b := true) ⟨o9, h9, c9⟩ isSubtype_stop ?_)
        exact wpAny_pure (hQ g _ fun b u hb e => kp b u (fun q => hb (by simp [q])) (fun q => hb (by simp [q])) (fun q => hb (by simp [q])) e)
end
/-- dict(zip(e1, e2)) of a list of keys and a tuple -/
def tDZip (K : PySem.W.Frag) (ta : TA) : TE := fun σ H Q => ta σ H fun vs H1 => ∃ (a b : Addr) (ks : List Key) (ys : List V), vs = [.ref a, .ref b] ∧ SqL K H1 a (ks.map kV) ∧ SqT K H1 b ys ∧ ys.length = ks.length ∧ ∀ p, H1 p = none → Q (.ref p) (upd H1 p (.dK (mergeK [] (ks.zip ys))))
theorem zip_carry {P : Program} {w : World} : ∀ {ks : List Key} {ys : List V} {us ws : List Value}, Vals (ks.map kV) us → Vals ys ws → ys.length = ks.length → ∃ prs : List (Key × Value), KV (ks.zip ys) prs ∧ prs.length = us.length ∧ ∀ (i : Nat) (a b : Value), us[i]? = some a → ws[i]? = some b → ∃ k, prs[i]? = some (k, b) ∧ (mixKind P w).is k a = true
  | [], [], us, ws, h1, h2, _ => by
    cases h1
    cases h2
    exact ⟨[], .nil, rfl, fun i a b e => by simp at e⟩
  | k :: ks, y :: ys, us, ws, h1, h2, hl => by
    cases h1 with
    | @cons _ u _ us r1 t1 =>
      cases h2 with
      | @cons _ v _ ws r2 t2 =>
        obtain ⟨prs, e1, e2, e3⟩ := zip_carry (P := P) (w := w) (ks := ks) (ys := ys) t1 t2 (Nat.succ.inj hl)
        refine ⟨(k, v) :: prs, .cons ⟨rfl, r2⟩ e1, by rw [List.length_cons, List.length_cons, e2], fun i a b ea eb => ?_⟩
        cases i with
        | zero =>
          simp at ea eb
          subst ea eb
          exact ⟨k, rfl, kV_is r1⟩
        | succ i => exact e3 i a b (by simpa using ea) (by simpa using eb)
  | [], _ :: _, _, _, _, _, hl => by cases hl
  | _ :: _, [], _, _, _, _, hl => by cases hl
theorem pe_dictZip {X : Cx} {e1 e2 : Expr} {ta : TA} {pd pz pos pos2 : Pos} (hcalm : X.calm = true) (hgd : Gl X "dict") (hmd : X.mg "dict" = none) (hgz : Gl X "zip") (hmz : X.mg "zip" = none) (ha : PA X [e1, e2] ta)
    (hs : starEach [e1, e2] X.env = (false, eval e1 X.env) :: starEach [e2] X.env := by rfl) (hpl : (backTo pos2 (starEach [e2] X.env)).any (·.1) = false := by rfl)
    (ho : starEach [.Call (.Name "zip" pz) [e1, e2] [] pos2] X.env = (false, eval (.Call (.Name "zip" pz) [e1, e2] [] pos2) X.env) :: starEach [] X.env := by rfl) :
    PE X (.Call (.Name "dict" pd) [.Call (.Name "zip" pz) [e1, e2] [] pos2] [] pos) (tDZip X.K ta) := by
  refine ⟨fun pins s σ H Q I h => ?_⟩
  refine wpAny_Call_Name_kw (ld_blt I hgd hmd (by decide +kernel : bootBuiltins "dict" = some (.type "dict")) ?_ (by decide) (by decide))
  refine PyProof.Rows.callWith_type1 ?_ ho rfl
  rw [ho]
  refine Calls.spliced_cons ?_
  refine wpAny_Call_Name_kw (ld_blt I hgz hmz PyProof.Rows.boot_zip ?_ (by decide) (by decide))
  refine PyProof.Rows.callWith_type1 (thn (ha.run pos2 pins s σ H _ I h) fun us s1 ⟨vs, H1, I1, r1, q1⟩ => ?_) hs hpl
  obtain ⟨a, b, ks, ys, ex, hqx, hqy, hlen, q⟩ := q1
  subst ex
  cases r1 with
  | cons r rr => cases rr with
    | cons r' rr =>
      cases rr
      cases r
      cases r'
      obtain ⟨its, rv, p1, z1⟩ := I1.list hqx
      obtain ⟨its2, rv2, p2, z2⟩ := I1.tuple hqy
      have la : a < s1.heap.objs.size := p1.lt
      have lb : b < s1.heap.objs.size := p2.lt
      have l1 := rv.length
      have l2 := rv2.length
      rw [List.length_map] at l1
      refine zip_begins2 (begins_list a its.toArray) (begins_tuple b its2.toArray) p1.isList p2 fun h' hz hTI hTO g1 g2 hsz hk => Calls.spliced_nil ?_
      have I2 : Inv X pins σ H1 { s1 with heap := h' } := I1.kept (t' := s1.toks) hk
      obtain ⟨prs, c1, c2, c3⟩ := zip_carry (P := X.prog) (w := X.w) rv rv2 hlen
      have sl : its.toArray.size = its2.toArray.size := by rw [List.size_toArray, List.size_toArray]; omega
      have S0 := zip_sep2 (N := s1.heap.objs.size) (fp1 := [a]) (fp2 := [b]) (fun c hc => by rw [List.mem_singleton.mp hc]; exact la) (fun c hc => by rw [List.mem_singleton.mp hc]; exact lb)
      refine PySem.call_dict_pairs (knd := mixKind X.prog X.w) (kvs := prs) (pairsOf _ _ _ _ _ a b its.toArray its2.toArray sl (Nat.ne_of_lt la) (Nat.ne_of_lt (Nat.lt_succ_of_lt lb)) S0) (I2.ok.hd hcalm) ⟨hz, hTI, ⟨_, _, hTO⟩, ⟨_, g1, rfl, rfl⟩, ⟨_, g2, rfl, rfl⟩, p1.isList.at fun o e => hk _ o e, Heap.IsTuple.at p2 fun o e => hk _ o e⟩ ⟨by rw [c2, List.size_toArray], fun i x y hxy => ?_⟩ ?_ fun g tk hd kp => ?_
      · obtain ⟨e1, e2⟩ := hxy
        exact c3 i x y (by simpa using e1) (by simpa using e2)
      · rw [List.size_toArray, ← l1, ← List.length_map (f := kV)]
        exact z1
      · have hle : s1.heap.objs.size ≤ h'.objs.size := by rw [hsz]; exact Nat.le_add_right _ _
        have hm : (h'.objs.size == sysModules) = false := beq_eq_false_iff_ne.mpr (Nat.ne_of_gt (Nat.lt_of_lt_of_le I1.big hle))
        have hz5 : (mergeK [] (ks.zip ys)).length ≤ sizeLine := by
          refine Nat.le_trans (length_mergeK _ []) ?_
          rw [List.length_nil, Nat.zero_add, List.length_zip, hlen, Nat.min_self, ← List.length_map (f := kV)]
          exact z1
        refine ⟨.ref h'.objs.size, _, I1.laid (t' := tk) (fun c u e => kp c u (fun z => ?_) (hk c u e)) hle (dk_new hz5 hm (c1.merge .nil) hd), rfl, q _ (I1.hok.fresh hle)⟩
        have lt : c < s1.heap.objs.size := Heap.lt_size e
        have z' : c = s1.heap.objs.size + 4 ∨ c = s1.heap.objs.size + 3 ∨ c = s1.heap.objs.size ∨ c = s1.heap.objs.size + 1 := by simpa using z
        rcases z' with e | e | e | e
        · rw [e] at lt; exact Nat.not_lt.mpr (Nat.le_add_right _ _) lt
        · rw [e] at lt; exact Nat.not_lt.mpr (Nat.le_add_right _ _) lt
        · rw [e] at lt; exact Nat.lt_irrefl _ lt
        · rw [e] at lt; exact Nat.not_lt.mpr (Nat.le_add_right _ _) lt

/-! ### a store: lists against [], dict(zip), displays, updates -/
section
/-- xs != [] -/
def rNeE (K : PySem.W.Frag) : R2 := fun x y H Q => ∃ (a b : Addr) (xs : List V), x = .ref a ∧ y = .ref b ∧ SqL K H a xs ∧ SqL K H b [] ∧ Q (.bl (!xs.isEmpty)) H
theorem op_neE {X : Cx} (hu : X.A.units + 64 < cLine) : OpR X (PySem.compareOp .NotEq) (rNeE X.K) := by
  intro pins s σ H x y v u Q I rx ry h
  obtain ⟨a, b, xs, rfl, rfl, ha, hb, q⟩ := h
  obtain rfl : v = Value.ref a := rx
  obtain rfl : u = Value.ref b := ry
  obtain ⟨its, rv, p1, _⟩ := I.list ha
  obtain ⟨its2, rv2, p2, _⟩ := I.list hb
  cases rv2
  cases rv with
  | nil => exact SeqAt.RcNeAt.lists (e := fun _ => true) p1.isList p2.isList rfl (by omega) (fun j h1 _ => absurd h1 (Nat.not_lt_zero j)) _ _ _ _ ⟨.bl false, H, I, rfl, q⟩
  | cons r t => exact SeqAt.RcNeAt.lists_lengths p1.isList p2.isList (by simp) (by omega) _ _ _ _ ⟨.bl true, H, I, rfl, q⟩
/-- d.update(e), e a dict -/
def tDUpd (td ty : TE) : TE := fun σ H Q => td σ H fun x H1 => ∃ a, x = .ref a ∧ IsD H1 a ∧ ty σ H1 fun y H2 => ∃ b kvs more, y = .ref b ∧ a ≠ b ∧ H2 a = some (.dK kvs) ∧ H2 b = some (.dK more) ∧ kvs.length + more.length ≤ sizeLine ∧ Q .non (upd H2 a (.dK (mergeK kvs more)))
theorem pe_dupd {X : Cx} {o e : Expr} {apos cpos : Pos} {td ty : TE} (ho : PE X o td) (he : PE X e ty) (m : M1 X o "update" apos e cpos) : PE X (.Call (.Attribute o "update" apos) [e] [] cpos) (tDUpd td ty) := by
  constructor
  intro pins s σ H Q I h
  refine wpAny_Call_method m.base m.few m.line PySem.F.plainAttrs_dict PySem.F.slot_dict_update PySem.F.type_dict_update (thn (ho.run pins s σ H _ I h) fun u s1 ⟨x, H1, I1, rx, a, ex, d, q1⟩ => ?_)
  subst ex
  obtain rfl : u = Value.ref a := rx
  obtain ⟨t1, t2, _⟩ := isD_at I1 d
  refine ⟨t1, t2, ?_⟩
  rw [m.trees]
  refine Calls.callWith_builtin rfl (Calls.evalArgs_plain (Calls.spliced_cons (thn (he.run pins s1 σ H1 _ I1 q1) fun v2 s2 ⟨y, H2, I2, ry, b, kvs, more, ey, ne, ea, eb, hl, q2⟩ => Calls.spliced_nil ?_)))
  subst ey
  obtain rfl : v2 = Value.ref b := ry
  obtain ⟨za, hda, va, ra, da⟩ := dk_of I2.hok ea
  obtain ⟨zb, hdb, vb, rb, db⟩ := dk_of I2.hok eb
  refine call_meetsIn PySem.F.slot_dict_update da.typeIs PySem.F.entry_dict_update (PySem.F.args_dict_update_2 _ _) (meets_dict_update (mixKind X.prog X.w) a b ne hdb) ⟨va, vb, da, db, by rw [← ra.length, ← rb.length]; exact hl, fun h' dd' _ hs => ⟨.non, _, ?_, rfl, q2⟩⟩
  have there : ∃ o9, h'.get? a = some o9 := let ⟨o9, _, _, ho9, _⟩ := dd'; ⟨o9, ho9⟩
  exact d_write (t' := s2.toks) I2 (by rw [ea]; exact True.intro) hs there (dk_new (Nat.le_trans (length_mergeK more kvs) hl) hda (rb.merge ra) dd')
end
section
variable [Fam] [Tabz]
def opNeE : PyData → PyData → Option DV
  | .list ds, .list [] => some (.d (.bool (!ds.isEmpty)))
  | _, _ => none
theorem r2NeE {K : PySem.W.Frag} : R2D (rNeE K) opNeE := by
  intro t B H v w a b z Q hB ra rb e k
  cases ra <;> cases rb <;> try cases e
  rename_i a xs ds h1 h2 b ys es h3 h4
  cases es with
  | cons _ _ => cases e
  | nil =>
    cases e
    cases h4
    refine ⟨_, _, xs, rfl, rfl, SqL.of (msk_some h1).2, SqL.of (msk_some h3).2, ?_⟩
    rw [h2.empty]
    exact k _ H (fun _ _ h => h) (Rp.bl _)
/-- dict(zip(..)) -/
theorem kds_kvs {M : Hp} : ∀ {vs : List V} {ks : List Key}, RpA M vs (ks.map kD) → vs = ks.map kV
  | _, [], h => by cases h; rfl
  | _, k :: ks, h => by
    cases h with
    | cons r t => rw [kD_kV r, kds_kvs t]; rfl
theorem KRp.zip {M : Hp} : ∀ {ks : List Key} {vs : List V} {ds : List PyData}, RpA M vs ds → KRp M (ks.zip vs) (ks.zip ds)
  | [], _, _, _ => .nil
  | _ :: _, _, _, .nil => .nil
  | _ :: _, _, _, .cons r t => .cons r (KRp.zip t)
def dDZip (g : DA) : DF := fun ρ n Q => g ρ n fun rs n1 => ∃ (ks : List Key) (ds : List PyData), datsOf rs = some [.list (ks.map kD), .tuple ds] ∧ ds.length = ks.length ∧ Q (.dic (mergeD [] (ks.zip ds))) n1
theorem pdDZip {X : Cx} {e : Expr} {g : DA} (h : PE X e (tDZip X.K (tDA g))) : PE X e (tD (dDZip g)) := h.imp fun σ H Q ⟨c, A, n, ρ, Q', E, hf, k⟩ => by
  refine ⟨c, A, n, ρ, _, E, hf, fun vs rs n1 H1 ⟨ks, ds, ed, hl, hq⟩ f1 o1 => ?_⟩
  have r := o1.dats E ed
  have E1 := E.fr f1
  cases r with
  | cons r1 t => cases t with
    | cons r2 t =>
      cases t
      cases r1 with
      | @lst a xs _ h1 h2 => cases r2 with
        | @tup b ys _ h3 h4 =>
          refine ⟨a, b, ks, ys, rfl, ?_, SqT.of (msk_some h3).2, by rw [h4.length]; exact hl, fun p hp => ?_⟩
          · rw [← kds_kvs h2]
            exact SqL.of (msk_some h1).2
          · have o := dic_new E1 hp ((KRp.zip (ks := ks) h4).merge (ws := []) (kvs := []) .nil)
            exact k _ _ n1 _ hq (f1.trans (FrV.same E1.g (same_new hp) o)) (VOk.mono E f1 o)
theorem EnvA.sideO {c : EC} {A : Nat → Option Addr} {n : Fam.S} {σ : L2.St} {H : Hp} {ρ : List DV} (E : EnvA c A n σ H ρ) {D : Addr} {o9 : HO} (ho9 : ∀ ps, o9 ≠ HO.tbl ps) (hD : H D = none) (M : Nat) : ∃ k A', ρ.length ≤ k ∧ M ≤ k ∧ A' k = some D ∧ (∀ j, j ≠ k → A' j = A j) ∧ A k = none ∧ EnvA c A' n σ (upd H D o9) ρ := by
  obtain ⟨N, hN⟩ := E.fin
  obtain ⟨Z, kN, kR, kM⟩ : ∃ Z, N ≤ Z ∧ ρ.length ≤ Z ∧ M ≤ Z := ⟨N + ρ.length + M, by omega, by omega, by omega⟩
  have same : ∀ j, j ≠ Z → (fun j => if j = Z then some D else A j) j = A j := fun j z => by show (if j = Z then some D else A j) = _; rw [if_neg z]
  have mine : (fun j => if j = Z then some D else A j) (Z) = some D := by show (if Z = Z then some D else A _) = _; rw [if_pos rfl]
  refine ⟨Z, fun j => if j = Z then some D else A j, kR, kM, mine, same, hN _ kN, ?_⟩
  have s := same_new (o := o9) hD
  have xt : Xt (msk (c.av n A) H) (msk (c.av n fun j => if j = Z then some D else A j) (upd H D o9)) := fun b o q e => by
    obtain ⟨h1, h2⟩ := msk_some e
    rw [msk_out]
    · exact s b o h2
    · rintro (z | ⟨j, z⟩)
      · exact h1 (.inl z)
      · have z' : (if j = Z then some D else A j) = some b := z
        split at z'
        · cases z'
          rw [hD] at h2
          cases h2
        · exact h1 (.inr ⟨j, z'⟩)
  refine ⟨E.keep.trans (.same s), c.Gm n _ _ H _ E.g xt (fun b o _ _ _ h => s b o h) fun b o _ h => s b o h, fun j a e => ?_, fun j a e => ?_, fun i j a e1 e2 => ?_, fun i x e => ?_, E.len, fun p hp => (E.pin p hp).ex xt, ⟨Z + 1, fun k hk => ?_⟩, fun j a x e1 e2 => ?_⟩
  · have e' : (if j = Z then some D else A j) = some a := e
    split at e'
    · cases e'
      exact (Fresh.of hD).fr E.fr0
    · exact E.new j a e'
  · have e' : (if j = Z then some D else A j) = some a := e
    split at e'
    · cases e'
      exact ⟨⟨_, upd_same, ho9⟩, fun z => by
        obtain ⟨o, h1, _⟩ := c.Gs n _ H D E.g z
        rw [hD] at h1
        cases h1⟩
    · obtain ⟨⟨o, h1, h2⟩, h3⟩ := E.has j a e'
      exact ⟨⟨o, s a o h1, h2⟩, h3⟩
  · have e1' : (if i = Z then some D else A i) = some a := e1
    have e2' : (if j = Z then some D else A j) = some a := e2
    split at e1' <;> split at e2'
    · rename_i z1 z2
      rw [z1, z2]
    · cases e1'
      obtain ⟨⟨o, h1, _⟩, _⟩ := E.has j D e2'
      rw [hD] at h1
      cases h1
    · cases e2'
      obtain ⟨⟨o, h1, _⟩, _⟩ := E.has i D e1'
      rw [hD] at h1
      cases h1
    · exact E.inj i j a e1' e2'
  · have ni : i ≠ Z := by
      have := (List.getElem?_eq_some_iff.mp e).1
      omega
    show SlOk _ _ _ (if i = Z then some D else A i) _ _
    rw [if_neg ni]
    exact (E.slot i x e).ex xt fun a o _ _ h => s a o h
  · show (if k = Z then some D else A k) = none
    rw [if_neg (by omega)]
    exact hN k (by omega)
  · have nj : j ≠ Z := by
      have := (List.getElem?_eq_some_iff.mp e2).1
      omega
    have e1' : (if j = Z then some D else A j) = some a := e1
    rw [if_neg nj] at e1'
    exact E.mine j a x e1' e2
/-- {k: v, ..} -/
def dPairsV : List (DF × DF) → List DV → Fam.S → (List (Key × PyData) → Fam.S → Prop) → Prop
  | [], _, n, Q => Q [] n
  | (f, g) :: r, ρ, n, Q => f ρ n fun x n1 => ∃ k : Key, x = .d (kD k) ∧ g ρ n1 fun y n2 => ∃ z, y.dat = some z ∧ dPairsV r ρ n2 fun ps n3 => Q ((k, z) :: ps) n3
abbrev trsD (fs : List (DF × DF)) : List (TE × TE) := fs.map fun p => (tD p.1, tD p.2)
theorem pairs_leD {c : EC} {A : Nat → Option Addr} {σ : L2.St} {ρ : List DV} : ∀ (fs : List (DF × DF)) {n : Fam.S} {H : Hp} (Q' : List (Key × PyData) → Fam.S → Prop) (Q : List (V × V) → Hp → Prop), EnvA c A n σ H ρ → dPairsV fs ρ n Q' →
    (∀ ws kvs n' H', Q' kvs n' → Fr c A n n' H H' → KRp (msk (c.av n' A) H') ws kvs → Q (ws.map fun kv => (kV kv.1, kv.2)) H') → tPairs (trsD fs) σ H Q
  | [], n, H, Q', Q, E, hf, k => k [] [] n H hf (Fr.refl E.g) .nil
  | (f, g) :: r, n, H, Q', Q, E, hf, k => by
    refine ⟨c, A, n, ρ, _, E, hf, fun v x n1 H1 ⟨key, ex, hg⟩ f1 o1 => ⟨c, A, n1, ρ, _, E.fr f1, hg, fun w y n2 H2 ⟨z, ez, hr⟩ f2 o2 => ?_⟩⟩
    subst ex
    obtain rfl := kD_kV (show Rp _ v (kD key) from o1)
    have E2 := (E.fr f1).fr f2
    refine pairs_leD r _ _ E2 hr fun ws kvs n3 H3 hq f3 rk => ?_
    exact k ((key, w) :: ws) _ n3 H3 hq ((f1.trans f2).trans f3) (.cons ((o2.dat (E.fr f1) ez).ex f3.msk) rk)
def dDisp (fs : List (DF × DF)) : DF := fun ρ n Q => dPairsV fs ρ n fun kvs n1 => kvs.length ≤ 15 ∧ Q (.dic (mergeD [] kvs)) n1
theorem KRp.ex2 {M M' : Hp} {ws : List (Key × V)} {kvs : List (Key × PyData)} (r : KRp M ws kvs) (e : Xt M M') : KRp M' ws kvs := r.ex e
theorem pdDisp {X : Cx} {keys : List (Option Expr)} {values : List Expr} {pos : Pos} {fs : List (DF × DF)} (h : PPs X pos keys values (trsD fs)) (hall : keys.all (·.isSome) = true) (hl : keys.length = values.length) (h0 : keys ≠ []) (h15 : keys.length ≤ 15) :
    PE X (.Dict keys values pos) (tD (dDisp fs)) := (pe_disp h hall hl h0 h15).imp fun σ H Q ⟨c, A, n, ρ, Q', E, hf, k⟩ => by
  intro p np
  obtain ⟨kp, A1, _, _, hA1, same, hAk, E0⟩ := E.sideO (o9 := .dK []) (fun ps z => by cases z) np 0
  have f0 : Fr c A n n H (upd H p (.dK [])) := Fr.new E.g np
  refine pairs_leD fs _ _ E0 hf fun ws kvs n1 H1 ⟨hl, hq⟩ f1 rk => ?_
  have np9 : ¬ c.P n p := fun b => (E0.nP hA1) (c.PB b)
  have np8 : ¬ c.P n1 p := f1.1.n np9 (fun _ z => by cases z) upd_same
  have h2 : H1 p = some (.dK []) := f1.k p _ np9 (fun _ z => by cases z) upd_same
  have up : ∀ {b : Addr}, c.av n1 A b → c.av n1 A1 b := fun {b} z => z.imp id fun ⟨j, e⟩ => ⟨j, by rw [same j fun z => by rw [z, hAk] at e; cases e]; exact e⟩
  have avp : c.av n1 A1 p := .inr ⟨kp, hA1⟩
  have nap : ¬ c.av n1 A p := by
    rintro (z | ⟨j, z⟩)
    · exact (E0.fr f1).nP hA1 z
    · have nj : j ≠ kp := fun e => by
        rw [e, hAk] at z
        cases z
      exact nj (E0.inj j kp p (by rw [same j nj]; exact z) hA1)
  have xt : Xt (msk (c.av n1 A1) H1) (msk (fun b => c.av n1 A b ∨ b = p) (upd H1 p (.dK (mergeK [] ws)))) := fun b o _ e => by
    obtain ⟨g1, g2⟩ := msk_some e
    have nb : b ≠ p := fun z => g1 (by rw [z]; exact avp)
    rw [msk_out (fun z => z.elim (fun z => g1 (up z)) nb), upd_ne nb]
    exact g2
  have xt2 : Xt (msk (c.av n1 A1) H1) (msk (hide (.dic (mergeD [] kvs)) (.ref p) (c.av n1 A)) (upd H1 p (.dK (mergeK [] ws)))) := fun b o q e => by
    obtain ⟨g1, g2⟩ := msk_some (xt b o q e)
    rw [msk_out fun z => g1 (z.imp id fun z => by cases z; rfl)]
    exact g2
  refine ⟨h2, ws, rfl, by rw [rk.length]; exact hl, k _ _ n1 _ hq ⟨fun b o q e => ?_, c.Gm n1 _ _ H1 _ f1.g xt2 (fun b o _ q2 _ hb => ?_) fun b o pb hb => ?_⟩ ⟨p, _, rfl, ⟨.of np, nap⟩, upd_same, (rk.merge (ws := []) (kvs := []) .nil).ex xt⟩⟩
  · have ne : b ≠ p := ne_of_none e np
    rw [upd_ne ne]
    exact (f0.1.trans f1.1) b o q e
  · have ne : b ≠ p := fun z => by
      rw [z, h2] at hb
      cases hb
      exact q2 _ rfl
    rw [upd_ne ne]
    exact hb
  · have ne : b ≠ p := fun z => np8 (z ▸ pb)
    rw [upd_ne ne]
    exact hb
/-- d.update({..}), d a dict of one's own -/
def dDUpd (i : Nat) (f : DF) : DS := fun E ρ n => (∃ kvs, ρ[i]? = some (.dic kvs)) ∧ f ρ n fun r n1 => ∃ kvs more, ρ[i]? = some (.dic kvs) ∧ r = .dic more ∧ kvs.length + more.length ≤ 100000 ∧ E.nx (ρ.set i (.dic (mergeD kvs more))) n1
theorem psDUpd {X : Cx} {i : Nat} {o e : Expr} {apos cpos pos : Pos} {f : DF} (ho : PE X o (tVar i)) (he : PE X e (tD f)) (m : M1 X o "update" apos e cpos) (hs : swapsWith (.Call (.Attribute o "update" apos) [e] [] cpos) none pos.line X.env = pure false := by rfl) :
    PS X (.Expr (.Call (.Attribute o "update" apos) [e] [] cpos) pos) (sD (dDUpd i f)) := (ps_expr (pe_dupd ho he m) hs).imp fun D σ H ⟨c, A, n, ρ, E, e, ⟨⟨kvs0, e0⟩, hf⟩, L⟩ => by
  obtain ⟨a, ws, h1, h2, h3, h4⟩ := e.slot i _ e0
  refine ⟨_, h2, a, rfl, .inl ⟨ws, .inl h3⟩, c, A, n, ρ, _, e, hf, fun v r n1 H1 ⟨kvs, more, e1, er, hl, hn⟩ f1 o1 => ?_⟩
  subst er
  have E1 := e.fr f1
  obtain ⟨a', ws', k1, k2, k3, k4⟩ := E1.slot i _ e1
  rw [h1] at k1
  cases k1
  obtain ⟨b, us, rfl, g1, g2, g3⟩ := o1
  have ne : a ≠ b := fun z => g1.2 (.inr ⟨i, by rw [← z]; exact h1⟩)
  have ru : KRp (msk (c.av n1 A) H1) us more := g3.ex fun x o _ ex => by
    obtain ⟨y1, y2⟩ := msk_some ex
    rw [msk_out fun z => y1 (.inl z)]
    exact y2
  refine ⟨b, ws', us, rfl, ne, k3, g2, ?_, ?_⟩
  · rw [k4.length, ru.length]
    exact Nat.le_trans hl (by decide)
  · exact L.nx _ _ _ _ _ hn (E1.mut h1 k3 (.inr ⟨_, rfl⟩) (fun ps z => by cases z) ⟨a, _, h1, k2, upd_same, ru.merge k4⟩ fun _ => rfl)
end
section
variable [Bas] [Tabz]
local instance (priority := high) yoFam3 : Fam := famS
/-- d.update({..}), d of the store -/
def dSUpd (f g : DF) : DS := fun E ρ n => f ρ n fun x n1 => ∃ a, x = .d (hnd a) ∧ (∃ kvs0, n1.2 a = some (.dK kvs0)) ∧ g ρ n1 fun r n2 => ∃ kvs, n2.2 a = some (.dK kvs) ∧ ∃ more, r = .dic more ∧ kvs.length + more.length ≤ 100000 ∧ E.nx ρ (n2.1, sset n2.2 a (.dK (mergeD kvs more)))
theorem psSUpd {X : Cx} {o e : Expr} {apos cpos pos : Pos} {f g : DF} (ho : PE X o (tD f)) (he : PE X e (tD g)) (m : M1 X o "update" apos e cpos) (hs : swapsWith (.Call (.Attribute o "update" apos) [e] [] cpos) none pos.line X.env = pure false := by rfl) :
    PS X (.Expr (.Call (.Attribute o "update" apos) [e] [] cpos) pos) (sD (dSUpd f g)) := (ps_expr (pe_dupd ho he m) hs).imp fun D σ H ⟨c, A, n, ρ, E, e, hf, L⟩ => by
  refine ⟨c, A, n, ρ, _, e, hf, fun v x n1 H1 ⟨a, ex, ⟨kvs0, e0⟩, hg⟩ f1 o1 => ?_⟩
  subst ex
  cases o1
  have E1 := e.fr f1
  obtain ⟨⟨ws0, h1, h2⟩, _⟩ := E1.sat e0
  refine ⟨a, rfl, .inl ⟨ws0, .inl h1⟩, c, A, n1, ρ, _, E1, hg, fun w r n2 H2 ⟨kvs, es, more, er, hl, hn⟩ f2 o2 => ?_⟩
  subst er
  have E2 := E1.fr f2
  obtain ⟨⟨ws, k1, k2⟩, _⟩ := E2.sat es
  obtain ⟨b, us, rfl, g1, g2, g3⟩ := o2
  have ne : a ≠ b := fun z => g1.2 (.inl (.inr (.inr (by rw [← z, es]; exact fun q => by cases q))))
  have ru : KRp (msk (c.av n2 A) H2) us more := g3.ex fun x o _ ex => by
    obtain ⟨y1, y2⟩ := msk_some ex
    rw [msk_out fun z => y1 (.inl z)]
    exact y2
  refine ⟨b, ws, us, rfl, ne, k1, g2, ?_, ?_⟩
  · rw [k2.length, ru.length]
    exact Nat.le_trans hl (by decide)
  · exact L.nx _ _ _ _ _ hn (E2.smut es ⟨_, upd_same, ru.merge k2⟩ (fun _ z => by cases z))
end

/-! ### a def that keeps a store of its own, seen from where there is none -/
section
variable [Bas] [Tabz] {P : Program} {w : World} {K : PySem.W.Frag} {mg : Str → Option Value} {base : Heap}
local instance (priority := low) downFam : Fam := famB
theorem down {k : Nat} {f : Addr} {fd : FuncData} {ps : List Str} {mS : @DM famS} {m : @DM famB} (F : FnOk P w K mg base CX0 k f fd ps (@spD famS _ mS))
    (h : ∀ rs n Q, m rs n Q → mS rs (n, fun _ => none) fun r n' => Q r n'.1) : FnOk P w K mg base CX0 k f fd ps (@spD famB _ m) := F.imp fun vs H Q E ⟨c, n, rs, Q', h0, hn, g, pn, ok, hm, kk⟩ => by
  subst h0
  subst hn
  have pS : ∀ {a : Addr}, Bas.Pq c.u c.t a ∨ (none : Option SO) ≠ none → Bas.Pq c.u c.t a := fun h => h.elim id fun z => absurd rfl z
  let c' : @EC famS := @EC.mk famS c.H0 (c.n0, fun _ => none) c.B0 c.t c.u [] fun a ha => ⟨(c.Bs a ha).1, fun z => (c.Bs a ha).2 (pS z)⟩
  have eB : @EC.B famS c' (c.n0, fun _ => none) = @EC.B famB c c.n0 := by
    funext a
    exact propext ⟨fun z => z.imp id pS, fun z => z.imp id .inl⟩
  refine ⟨c', (c.n0, fun _ => none), rs, fun r n' => Q' r n'.1, rfl, rfl, ⟨⟨g.1, fun a o e => by cases e⟩, g.2⟩, rfl, by rw [eB]; exact ok, h _ _ _ hm, fun v r n' H' hq f o => ?_⟩
  have sub : ∀ {a : Addr}, @EC.B famB c n'.1 a → @EC.B famS c' n' a := fun z => z.imp id .inl
  have xt : Xt (msk (@EC.B famS c' n') H') (msk (@EC.B famB c n'.1) H') := fun b o _ e => by
    obtain ⟨h1, h2⟩ := msk_some e
    rw [msk_out fun z => h1 (sub z)]
    exact h2
  have xt2 : ∀ a, Xt (msk (fun b => @EC.B famS c' n' b ∨ b = a) H') (msk (fun b => @EC.B famB c n'.1 b ∨ b = a) H') := fun a b o _ e => by
    obtain ⟨h1, h2⟩ := msk_some e
    rw [msk_out fun z => h1 (z.imp sub id)]
    exact h2
  refine kk v r n'.1 H' hq ⟨fun b o q e => ⟨fun p => ?_, (f.1 b o q e).2⟩, f.2.1.1, f.2.2⟩ ?_
  · obtain ⟨e1, e2⟩ := (f.1 b o q e).1 fun z => p (pS z)
    exact ⟨e1, fun z => e2 (.inl z)⟩
  · cases r with
    | un => exact o
    | tape => exact o
    | raw v => exact o
    | d x => exact Rp.ex o xt
    | own ds =>
      obtain ⟨a, vs, h1, h2, h3, h4⟩ := o
      exact ⟨a, vs, h1, ⟨h2.1, fun z => h2.2 (sub z)⟩, h3, h4.ex (xt2 a)⟩
    | dic kvs =>
      obtain ⟨a, vs, h1, h2, h3, h4⟩ := o
      exact ⟨a, vs, h1, ⟨h2.1, fun z => h2.2 (sub z)⟩, h3, h4.ex (xt2 a)⟩
end
theorem pds0 [Fam] [Tabz] {X : Cx} {pos : Pos} : PPs X pos [] [] (trsD []) := pps_nil
theorem pds1 [Fam] [Tabz] {X : Cx} {pos : Pos} {k v : Expr} {ks : List (Option Expr)} {vs : List Expr} {f g : DF} {fs : List (DF × DF)} (hk : PE X k (tD f)) (hv : PE X v (tD g)) (h : PPs X pos ks vs (trsD fs)) : PPs X pos (some k :: ks) (v :: vs) (trsD ((f, g) :: fs)) := pps_cons hk hv h

/-! ### a def that knows no store, called where there is one -/
section
variable [Bas] [Tabz] {P : Program} {w : World} {K : PySem.W.Frag} {mg : Str → Option Value} {base : Heap}
local instance (priority := low) upFam : Fam := famS
theorem up {k : Nat} {f : Addr} {fd : FuncData} {ps : List Str} {mB : @DM famB} {m : @DM famS} (F : FnOk P w K mg base CX0 k f fd ps (@spD famB _ mB))
    (h : ∀ rs (n : Int × Sto) Q, m rs n Q → mB rs n.1 fun r n' => Q r (n', n.2)) : FnOk P w K mg base CX0 k f fd ps (@spD famS _ m) := F.imp fun vs H Q E ⟨c, n, rs, Q', h0, hn, g, pn, ok, hm, kk⟩ => by
  subst h0
  subst hn
  have gs : ∀ a o, c.n0.2 a = some o → SReal (msk (@EC.B famS c c.n0) c.H0) c.H0 a o ∧ ¬ Bas.Pq c.u c.t a := g.1.2
  let c' : @EC famB := @EC.mk famB c.H0 c.n0.1 (fun a => c.B0 a ∨ c.n0.2 a ≠ none) c.t c.u [] fun a ha => by
    rcases ha with ha | ha
    · exact ⟨(c.Bs a ha).1, fun z => (c.Bs a ha).2 (.inl z)⟩
    · cases e : c.n0.2 a with
      | none => exact absurd e ha
      | some o =>
        obtain ⟨r, np⟩ := gs a o e
        refine ⟨?_, np⟩
        obtain ⟨w, h1, h2, _⟩ := r.at
        exact ⟨w, h1, h2⟩
  have eB : ∀ i : Int, @EC.B famB c' i = @EC.B famS c (i, c.n0.2) := fun i => by
    funext a
    exact propext ⟨fun z => z.elim (fun z => z.elim .inl fun z => .inr (.inr z)) fun z => .inr (.inl z), fun z => z.elim (fun z => .inl (.inl z)) fun z => z.elim .inr fun z => .inl (.inr z)⟩
  have ok2 : @VsOk c.t (@EC.B famB c' c.n0.1) c.H0 c.H0 vs rs := by rw [eB]; exact ok
  refine ⟨c', c.n0.1, rs, fun r n' => Q' r (n', c.n0.2), rfl, rfl, ⟨g.1.1, g.2⟩, rfl, ok2, h _ _ _ hm, fun v r n' H' hq f o => ?_⟩
  have o2 : VOk c.t (@EC.B famS c (n', c.n0.2)) c.H0 v H' r := by rw [← eB]; exact o
  have still : ∀ b o, (∀ ps, o ≠ HO.tbl ps) → ¬ Bas.Pq c.u c.t b → c.H0 b = some o → H' b = some o := fun b o q p e => ((f.1 b o q e).1 p).1
  have xt : Xt (msk (@EC.B famS c c.n0) c.H0) (msk (hide r v (@EC.av famS c (n', c.n0.2) A0)) H') := fun b o q e => by
    obtain ⟨h1, h2⟩ := msk_some e
    rw [msk_out]
    · exact still b o q (fun z => h1 (.inr (.inl z))) h2
    · have nb : ¬ @EC.av famS c (n', c.n0.2) A0 b := fun z => z.elim h1 fun ⟨i, z⟩ => by cases z
      have fr : ∀ a', Fresh c.H0 a' → v = .ref a' → v ≠ .ref b := fun a' fa e1 e2 => by
        rw [e1] at e2
        cases e2
        obtain ⟨ps, e3⟩ := fa o h2
        exact q ps e3
      cases r with
      | own ds =>
        obtain ⟨a', vs', e1, e2, _⟩ := o2
        exact fun z => z.elim nb (fr a' e2.1 e1)
      | dic ds =>
        obtain ⟨a', vs', e1, e2, _⟩ := o2
        exact fun z => z.elim nb (fr a' e2.1 e1)
      | _ => exact nb
  refine kk v r (n', c.n0.2) H' hq ⟨fun b o q e => ⟨fun p => ?_, (f.1 b o q e).2⟩, ⟨f.2.1, fun a o e => ⟨?_, (gs a o e).2⟩⟩, f.2.2⟩ o2
  · obtain ⟨e1, e2⟩ := (f.1 b o q e).1 fun z => p (.inl z)
    exact ⟨e1, fun z => z.elim e2 fun z => p (.inr z)⟩
  · obtain ⟨r1, np⟩ := gs a o e
    exact r1.ex xt fun u e => by
      obtain ⟨w, h1, h2, _⟩ := r1.at
      rw [h1] at e
      cases e
      exact still a _ h2 np h1
end
section
variable [Bas] [Tabz] {P : Program} {w : World} {K : PySem.W.Frag} {mg : Str → Option Value} {base : Heap}
/-- a contract without a store, where there is one -/
abbrev upM (mB : @DM famB) : @DM famS := fun rs n Q => mB rs n.1 fun r n' => Q r (n', n.2)
theorem up_D {k : Nat} {x : Str} {ps : List Str} {mB : @DM famB} (h : Cal P w K mg base k x ps (@spD famB _ mB)) : Cal P w K mg base k x ps (@spD famS _ (upM mB)) := by
  obtain ⟨f, fd, G, r⟩ := h
  exact ⟨f, fd, up G fun _ _ _ h => h, r⟩
end

/-! ### a store: extend, lists of it against data -/
section
variable [Bas] [Tabz]
local instance (priority := high) yoFam6 : Fam := famS
/-- xs.extend(e), xs of the store -/
def dSExt (f g : DF) : DS := fun E ρ n => f ρ n fun x n1 => ∃ a ds0, x = .d (hnd a) ∧ n1.2 a = some (.lst ds0) ∧ g ρ n1 fun r n2 => ∃ ds, n2.2 a = some (.lst ds) ∧ ∃ es, r.dat = some (.list es) ∧ ds.length + es.length ≤ 100000 ∧ E.nx ρ (n2.1, sset n2.2 a (.lst (ds ++ es)))
theorem psSExt {X : Cx} {e : Expr} {f g : DF} {pos : Pos} (hs : swapsWith e none pos.line X.env = pure false) (h : PE X e (tBM X.K "list" rExtend (tD f) (tCons (tD g) tNil))) : PS X (.Expr e pos) (sD (dSExt f g)) := (ps_expr h hs).imp fun D σ H ⟨c, A, n, ρ, E, e, hf, L⟩ => by
  refine ⟨c, A, n, ρ, _, e, hf, fun v x n1 H1 ⟨a, ds0, ex, e0, hg⟩ f1 o1 => ?_⟩
  subst ex
  cases o1
  have E1 := e.fr f1
  obtain ⟨⟨vs, h1, h2⟩, _⟩ := E1.sat e0
  refine ⟨.inl ⟨rfl, _, SqL.of h1⟩, c, A, n1, ρ, _, E1, hg, fun w r n2 H2 ⟨ds, es, xs, ed, hl, hn⟩ f2 o2 => ?_⟩
  have E2 := E1.fr f2
  obtain ⟨⟨vs', k1, k2⟩, _⟩ := E2.sat es
  have rv := o2.dat E1 ed
  cases rv with
  | lst hb rb =>
    refine ⟨a, _, vs', _, rfl, rfl, k1, (msk_some hb).2, big_line (by rw [k2.length, rb.length]; exact hl), ?_⟩
    exact L.nx _ _ _ _ _ hn (E2.smut es ⟨_, upd_same, k2.app rb⟩ (fun _ z => by cases z))
/-- a list of the store against data -/
def dNeS (f g : DF) : DT := fun ρ n Q => f ρ n fun x n1 => ∃ a, x = .d (hnd a) ∧ g ρ n1 fun y n2 => ∃ ds e, n2.2 a = some (.lst ds) ∧ y.dat = some e ∧ SeqAt.shaped (.list ds) = true ∧ SeqAt.shaped e = true ∧ Q (!PyData.eqv (.list ds) e) n2
theorem ptNeS {X : Cx} {a b : Expr} {f g : DF} {pos : Pos} (hu : X.A.units + 64 < cLine) (ha : PE X a (tD f)) (hb : PE X b (tD g)) (hm : behindInMarks .NotEq b = false := by rfl) : PT X (.Compare a [.NotEq] [b] pos) (tDT (dNeS f g)) := (pt_cmpR (op_neD hu) ha hb hm).imp fun σ H Q ⟨c, A, n, ρ, Q', E, hf, k⟩ => by
  refine ⟨c, A, n, ρ, _, E, hf, fun v x n1 H1 ⟨a, ex, hg⟩ f1 o1 => ?_⟩
  subst ex
  cases o1
  have E1 := E.fr f1
  refine ⟨c, A, n1, ρ, _, E1, hg, fun w y n2 H2 ⟨ds, e, es, ed, s1, s2, hq⟩ f2 o2 => ?_⟩
  have E2 := E1.fr f2
  obtain ⟨⟨vs, h1, h2⟩, _⟩ := E2.sat es
  have r1 : Rp H2 (.ref a) (.list ds) := .lst h1 (h2.ex msk_le)
  exact ⟨_, _, r1.dp (Bool.and_eq_true_iff.mp s1).1, up_msk (o2.dat E1 ed) s2, s1, s2, _, rfl, k _ n2 H2 hq (f1.trans f2).fr⟩
end

/-! ### walks over what stands in the store -/
section
variable [Fam] [Tabz]
/-- what is walked while I holds of the state -/
def WDs (c : EC) (l : List (V × PyData)) (J : It) (ds : List PyData) (I : Fam.S → Prop) : Prop := ∀ A n σ H ρ, EnvA (c.pin l) A n σ H ρ → I n →
  (∀ i d, ds[i]? = some d → J.go i H ∧ ∀ x H2, J.yld i H x H2 → (∀ b o, H b = some o → H2 b = some o) ∧ Rp (msk (c.av n A) H2) x d) ∧ J.stop ds.length H
abbrev DIS := List DV → Fam.S → (List PyData → (Fam.S → Prop) → Fam.S → Prop) → Prop
def iDS (f : DIS) : TI := fun σ H R => ∃ (c : EC) (A : Nat → Option Addr) (n : Fam.S) (ρ : List DV) (Q' : List PyData → (Fam.S → Prop) → Fam.S → Prop), EnvA c A n σ H ρ ∧ f ρ n Q' ∧ ∀ ds I J n' H' l, Q' ds I n' → Fr c A n n' H H' → (∀ p ∈ l, Rp (msk (c.av n' A) H') p.1 p.2) → WDs c l J ds I → R J H'
def dForS (f : DIS) (g : DG) (F : DS) : DS := fun E ρ n => f ρ n fun ds I n1 => ∃ W : Nat → List DV → Fam.S → Prop, W 0 ρ n1 ∧ (∀ i ρ n, W i ρ n → I n) ∧ (∀ i d ρ n, ds[i]? = some d → W i ρ n → ∃ ρ', g d ρ = some ρ' ∧ F { E with nx := W (i + 1), ct := W (i + 1), bk := E.nx } ρ' n) ∧ ∀ ρ n, W ds.length ρ n → E.nx ρ n
theorem psForS {X : Cx} {tg iter : Expr} {body : List Stmt} {f : DIS} {sl : List Nat} {g : DG} {F : DS} {pos : Pos} (hp : PassesOwn (model X.prog X.w) X.A X.env X.xe) (hc : X.calm = true) (hi : PI X tg iter (iDS f)) (hg : PG X tg (gD sl g)) (hb : PSs X body (sD F))
    (hs : ∀ x, foldedSetIterable iter X.env x = pure x := by intro _; rfl) : PS X (.For tg iter body [] pos) (sD (dForS f g F)) := (ps_for hp hc hi hg hb hs).imp fun D σ H ⟨c, A, n, ρ, E, e, hf, L⟩ => by
  refine ⟨c, A, n, ρ, _, e, hf, fun ds I J n1 H1 l ⟨W, w0, wi, ws, wd⟩ f1 pins wD => ?_⟩
  refine ⟨fun i m σ H => m = ds.length - i ∧ i ≤ ds.length ∧ ∃ A n ρ, EnvA (c.pin l) A n σ H ρ ∧ W i ρ n, ⟨ds.length, by simp, Nat.zero_le _, A, n1, ρ, (e.fr f1).pins pins, w0⟩, ?_⟩
  rintro i m σ H ⟨rfl, hi, A, n, ρ, e', w⟩
  have q := wD A n σ H ρ e' (wi i ρ n w)
  by_cases hlt : i < ds.length
  · obtain ⟨go, yl⟩ := q.1 i ds[i] (List.getElem?_eq_getElem hlt)
    refine .inr ⟨go, fun σ H => ∃ A n ρ, EnvA (c.pin l) A n σ H ρ ∧ W (i + 1) ρ n, fun σ' H' w' => ⟨ds.length - (i + 1), by omega, rfl, hlt, w'⟩, fun x H2 y => ?_⟩
    obtain ⟨s, r⟩ := yl x H2 y
    obtain ⟨ρ', e1, h1⟩ := ws i ds[i] ρ n (List.getElem?_eq_getElem hlt) w
    have e2 : EnvA (c.pin l) A n σ H2 ρ := e'.fr (Fr.same e'.g s)
    refine ⟨c.pin l, A, n, ρ, ρ', ds[i], e2, r, e1, fun A' σ' e3 _ _ => ⟨c.pin l, A', n, ρ', _, e3, h1, ⟨?_, ?_, ?_, ?_⟩⟩⟩
    · exact fun A n σ H ρ h e4 => ⟨A, n, ρ, e4, h⟩
    · exact fun v r n H' h fr o => L.rt v r n H' h fr o
    · exact fun A n σ H ρ h e4 => L.nx A n σ H ρ h e4.unpin
    · exact fun A n σ H ρ h e4 => ⟨A, n, ρ, e4, h⟩
  · have z : i = ds.length := by omega
    subst z
    exact .inl ⟨q.2, L.nx A n σ H ρ (wd ρ n w) e'.unpin⟩
abbrev LcOkS (g : DG) (t : DT) (h : DF) (vs : List Nat) (ρ : List DV) (Q : DQ) (ds : List PyData) (I : Fam.S → Prop) (n1 : Fam.S) : Prop := (vs.all fun j => match ρ[j]? with | some x => !x.isOwn | none => false) = true ∧ ds.length ≤ 100000 ∧ ∃ W : Nat → List PyData → Fam.S → Prop, W 0 [] n1 ∧ (∀ i acc n, W i acc n → I n) ∧
  (∀ i d acc n, ds[i]? = some d → W i acc n → ∃ ρ', g d (wipeD ρ vs) = some ρ' ∧ t ρ' n fun b n2 => if b = true then h ρ' n2 fun r n3 => ∃ y, r.dat = some y ∧ W (i + 1) (acc ++ [y]) n3 else W (i + 1) acc n2) ∧ ∀ acc n, W ds.length acc n → Q (.own acc) n
def dLcS (f : DIS) (g : DG) (t : DT) (h : DF) (vs : List Nat) : DF := fun ρ n Q => f ρ n fun ds I n1 => LcOkS g t h vs ρ Q ds I n1
/-- [h x for x in xs] -/
theorem lcMapS {g : DG} {h : DF} {vs : List Nat} {ρ : List DV} {n : Fam.S} {I : Fam.S → Prop} {Q : DQ} {ds : List PyData} (out : List PyData) (own : (vs.all fun j => match ρ[j]? with | some x => !x.isOwn | none => false) = true) (big : ds.length ≤ 100000) (hl : out.length = ds.length)
    (step : ∀ (i : Nat) (d y : PyData), ds[i]? = some d → out[i]? = some y → ∃ ρ', g d (wipeD ρ vs) = some ρ' ∧ ∀ R : DQ, (∀ r, r.dat = some y → R r n) → h ρ' n R) (q : Q (.own out) n)   (hI : I n) : LcOkS g (fun _ n Q => Q true n) h vs ρ Q ds I n := by
  refine ⟨own, big, fun i acc m => m = n ∧ acc = out.take i, ⟨rfl, rfl⟩, (fun i acc m z => by rw [z.1]; exact hI), ?_, ?_⟩
  · rintro i d acc m hd ⟨rfl, rfl⟩
    have hi : i < out.length := by rw [hl]; exact (List.getElem?_eq_some_iff.mp hd).1
    obtain ⟨y, ey⟩ : ∃ y, out[i]? = some y := ⟨_, List.getElem?_eq_getElem hi⟩
    obtain ⟨ρ', e1, h1⟩ := step i d y hd ey
    refine ⟨ρ', e1, ?_⟩
    show (if true = true then _ else _)
    rw [if_pos rfl]
    exact h1 _ fun r er => ⟨y, er, rfl, by rw [List.take_succ, ey]; rfl⟩
  · rintro acc m ⟨rfl, rfl⟩
    rw [← hl, List.take_length]
    exact q

theorem lcFilS {g : DG} {t : DT} {h : DF} {vs : List Nat} {ρ : List DV} {n : Fam.S} {I : Fam.S → Prop} {Q : DQ} {ds : List PyData} (p : PyData → Bool) (own : (vs.all fun j => match ρ[j]? with | some x => !x.isOwn | none => false) = true) (big : ds.length ≤ 100000)
    (step : ∀ d, d ∈ ds → ∃ ρ', g d (wipeD ρ vs) = some ρ' ∧ (∀ R : Bool → Fam.S → Prop, R (p d) n → t ρ' n R) ∧ ∀ R : DQ, R (.d d) n → h ρ' n R) (q : Q (.own (ds.filter p)) n)   (hI : I n) : LcOkS g t h vs ρ Q ds I n := by
  refine ⟨own, big, fun i acc m => m = n ∧ acc = (ds.take i).filter p, ⟨rfl, rfl⟩, (fun i acc m z => by rw [z.1]; exact hI), ?_, ?_⟩
  · rintro i d acc m hd ⟨rfl, rfl⟩
    obtain ⟨ρ', e1, h1, h2⟩ := step d (List.mem_of_getElem? hd)
    refine ⟨ρ', e1, h1 _ ?_⟩
    have et : (ds.take (i + 1)).filter p = (ds.take i).filter p ++ if p d = true then [d] else [] := by
      rw [List.take_succ, hd, List.filter_append]
      congr 1
      cases e : p d with
      | true => simp [e]
      | false => simp [e]
    cases e : p d with
    | true =>
      rw [if_pos rfl]
      refine h2 _ ⟨d, rfl, rfl, ?_⟩
      rw [et, e, if_pos rfl]
    | false =>
      rw [if_neg Bool.false_ne_true]
      refine ⟨rfl, ?_⟩
      rw [et, e, if_neg Bool.false_ne_true, List.append_nil]
  · rintro acc m ⟨rfl, rfl⟩
    rw [List.take_length] at *
    exact q
theorem lcFMS {g : DG} {t : DT} {h : DF} {vs : List Nat} {ρ : List DV} {n : Fam.S} {I : Fam.S → Prop} {Q : DQ} {ds : List PyData} (p : PyData → Bool) (out : PyData → PyData) (own : (vs.all fun j => match ρ[j]? with | some x => !x.isOwn | none => false) = true) (big : ds.length ≤ 100000)
    (step : ∀ d, d ∈ ds → ∃ ρ', g d (wipeD ρ vs) = some ρ' ∧ (∀ R : Bool → Fam.S → Prop, R (p d) n → t ρ' n R) ∧ (p d = true → ∀ R : DQ, (∀ r, r.dat = some (out d) → R r n) → h ρ' n R)) (q : Q (.own ((ds.filter p).map out)) n)   (hI : I n) : LcOkS g t h vs ρ Q ds I n := by
  refine ⟨own, big, fun i acc m => m = n ∧ acc = ((ds.take i).filter p).map out, ⟨rfl, rfl⟩, (fun i acc m z => by rw [z.1]; exact hI), ?_, ?_⟩
  · rintro i d acc m hd ⟨rfl, rfl⟩
    obtain ⟨ρ', e1, h1, h2⟩ := step d (List.mem_of_getElem? hd)
    refine ⟨ρ', e1, h1 _ ?_⟩
    have et : ((ds.take (i + 1)).filter p).map out = ((ds.take i).filter p).map out ++ if p d = true then [out d] else [] := by
      rw [List.take_succ, hd, List.filter_append, List.map_append]
      congr 1
      cases e : p d with
      | true => simp [e]
      | false => simp [e]
    cases e : p d with
    | true =>
      rw [if_pos rfl]
      refine h2 e _ fun r er => ⟨_, er, rfl, ?_⟩
      rw [et, e, if_pos rfl]
    | false =>
      rw [if_neg Bool.false_ne_true]
      refine ⟨rfl, ?_⟩
      rw [et, e, if_neg Bool.false_ne_true, List.append_nil]
  · rintro acc m ⟨rfl, rfl⟩
    rw [List.take_length] at *
    exact q
theorem lc_leS {f : DIS} {g : DG} {sl vs : List Nat} {t : DT} {tt : TT} {h : DF} (hsl : ∀ j ∈ sl, j ∈ vs) (ht : ∀ σ H Q, tDT t σ H Q → tt σ H Q) (σ : L2.St) (H : Hp) (Q : VK) (q : tD (dLcS f g t h vs) σ H Q) : tLc (iDS f) (gD sl g) tt (tD h) vs σ H Q := by
  obtain ⟨c, A, n, ρ, Q', E, hf, k⟩ := q
  refine ⟨c, A, n, ρ, _, E, hf, fun ds I J n1 H1 l ⟨nown, big, W, w0, wi, ws, wd⟩ f1 pins wD D hD => ?_⟩
  have E1 := E.fr f1
  obtain ⟨M, hM⟩ := bound_of vs
  obtain ⟨kD, A1, hk, hkM, hA1, sameA, hAk, ES⟩ := E1.side (xs := []) hD M
  have vA1 : ∀ j ∈ vs, A1 j = none := fun j hj => by
    have hb := List.all_eq_true.mp nown j hj
    have nk : j ≠ kD := by
      have := hM j hj
      omega
    cases e : A1 j with
    | none => rfl
    | some a =>
      cases er : ρ[j]? with
      | none =>
        rw [er] at hb
        cases hb
      | some x =>
        have := ES.mine j a x e er
        rw [er] at hb
        have hb' : (!x.isOwn) = true := hb
        rw [this] at hb'
        cases hb'
  have Ep : EnvA (c.pin l) A1 n1 σ (upd H1 D (.lst [])) ρ := ES.pins fun p hp => (pins p hp).ex fun b o q e => by
    obtain ⟨h1, h2⟩ := msk_some e
    have nb : b ≠ D := fun z => by rw [z, hD] at h2; cases h2
    rw [msk_out]
    · rw [upd_ne nb]; exact h2
    · rintro (z | ⟨j, z⟩)
      · exact h1 (.inl z)
      · by_cases e : j = kD
        · rw [e, hA1] at z
          exact nb (Option.some.inj z).symm
        · rw [sameA j e] at z
          exact h1 (.inr ⟨j, z⟩)
  refine ⟨fun i m H2 => m = ds.length - i ∧ i ≤ ds.length ∧ ∃ n vals acc, EnvA (c.pin l) A1 n σ H2 ρ ∧ H2 D = some (.lst vals) ∧ RpA (msk (c.av n A1) H2) vals acc ∧ acc.length ≤ i ∧ W i acc n ∧ Stay (c.P n1) (c.P n) H1 H2, ⟨ds.length, by simp, Nat.zero_le _, n1, [], [], Ep, upd_same, .nil, Nat.le_refl _, w0, .same fun b o e => by rw [upd_ne (ne_of_none e hD)]; exact e⟩, ?_⟩
  rintro i m H2 ⟨rfl, hi, n2, vals, acc, e2, hv, rv, la, w, kp⟩
  have qD := wD A1 n2 σ H2 ρ e2 (wi i acc n2 w)
  have nD : ¬ c.P n2 D := fun p => (e2.nP hA1) (c.PB p)
  have avD : ∀ n, c.av n A1 D := fun n => .inr ⟨kD, hA1⟩
  by_cases hlt : i < ds.length
  · obtain ⟨go, yl⟩ := qD.1 i ds[i] (List.getElem?_eq_getElem hlt)
    refine .inr ⟨go, fun H2 => ∃ n vals acc, EnvA (c.pin l) A1 n σ H2 ρ ∧ H2 D = some (.lst vals) ∧ RpA (msk (c.av n A1) H2) vals acc ∧ acc.length ≤ i + 1 ∧ W (i + 1) acc n ∧ Stay (c.P n1) (c.P n) H1 H2, fun H' w' => ⟨ds.length - (i + 1), by omega, rfl, hlt, w'⟩, fun x H3 y => ?_⟩
    obtain ⟨s3, r3⟩ := yl x H3 y
    obtain ⟨ρ', eg, et⟩ := ws i ds[i] acc n2 (List.getElem?_eq_getElem hlt) w
    have f3 : Fr (c.pin l) A1 n2 n2 H2 H3 := Fr.same e2.g s3
    have e3 : EnvA (c.pin l) A1 n2 (L2.wipe σ vs) H3 (wipeD ρ vs) := (e2.fr f3).wipe vs vA1
    refine ⟨c.pin l, A1, n2, _, ρ', ds[i], e3, r3, eg, fun A' σ' e4 l4 o4 => ⟨wipe_eq l4 fun j hj => (o4 j fun z => hj (hsl j z)).1, ?_⟩⟩
    have back : ∀ {n5 : Fam.S} {H5 : Hp} {v : V} {r : DV}, FrV (c.pin l) A' n2 n5 H3 H5 v r → EnvA (c.pin l) A1 n5 σ H5 ρ ∧ H5 D = some (.lst vals) ∧ RpA (msk (c.av n5 A1) H5) vals acc ∧ Stay (c.P n1) (c.P n5) H1 H5 := fun {n5 H5 v r} f5 => by
      have g5 : Fr (c.pin l) A1 n2 n5 H3 H5 := ⟨f5.1, (c.pin l).Gmk f5.g fun i a e => ⟨i, by rw [(o4 i fun z => by rw [vA1 i (hsl i z)] at e; cases e).2]; exact e⟩⟩
      have f25 := f3.trans g5
      exact ⟨e2.fr f25, f25.k D _ nD (fun ps z => by cases z) hv, rv.ex f25.msk, kp.trans f25.1⟩
    refine ht σ' H3 _ ⟨c.pin l, A', n2, ρ', _, e4, et, fun b n4 H4 hb f4 => ?_⟩
    cases b with
    | false =>
      obtain ⟨b1, b2, b3, b4⟩ := back f4
      exact ⟨n4, vals, acc, b1, b2, b3, Nat.le_succ_of_le la, hb, b4⟩
    | true =>
      refine ⟨c.pin l, A', n4, ρ', _, e4.fr f4, hb, fun v r n5 H5 ⟨y, ey, hw⟩ f5 o5 => ?_⟩
      obtain ⟨b1, b2, b3, b4⟩ := back (f4.trans f5)
      have ry := o5.dat (e4.fr f4) ey
      have ll : vals.length < sizeLine := big_lt (by rw [rv.length]; omega)
      refine ⟨vals, b2, ll, ?_⟩
      have ry1 : Rp (msk (c.av n5 A1) H5) v y := ry.ex fun b o _ e => by
        obtain ⟨h1, h2⟩ := msk_some e
        rw [msk_out]
        · exact h2
        · rintro (z | ⟨j, z⟩)
          · exact h1 (.inl z)
          · by_cases hj : j ∈ sl
            · rw [vA1 j (hsl j hj)] at z
              cases z
            · exact h1 (.inr ⟨j, by rw [(o4 j hj).2]; exact z⟩)
      have mk : msk (c.av n5 A1) (upd H5 D (.lst (vals ++ [v]))) = msk (c.av n5 A1) H5 := by
        funext b
        by_cases z : c.av n5 A1 b
        · unfold msk
          rw [if_pos z, if_pos z]
        · rw [msk_out z, msk_out z, upd_ne (fun e => z (by rw [e]; exact avD n5))]
      have m1 := b1.mut (r := .un) (u := .lst (vals ++ [v])) hA1 b2 (.inl ⟨_, rfl⟩) (fun ps z => by cases z) True.intro (fun z => by omega)
      rw [List.set_eq_of_length_le hk] at m1
      refine ⟨n5, vals ++ [v], acc ++ [y], m1, upd_same, by rw [mk]; exact b3.app (.one ry1), by rw [List.length_append]; show acc.length + 1 ≤ _; omega, hw, fun b o q e => ?_⟩
      rw [upd_ne (fun z => by rw [z, hD] at e; cases e)]
      exact b4 b o q e
  · have z : i = ds.length := by omega
    subst z
    refine .inl ⟨qD.2, ?_⟩
    have up : ∀ {b : Addr}, c.av n2 A b → c.av n2 A1 b := fun {b} z => z.imp id fun ⟨j, e⟩ => ⟨j, by rw [sameA j fun z => by rw [z, hAk] at e; cases e]; exact e⟩
    have fE : FrV c A n1 n2 H1 H2 (.ref D) (.own acc) := ⟨kp, c.Gx e2.g fun b o _ e => by
      obtain ⟨h1, h2⟩ := msk_some e
      rw [msk_out]
      · exact h2
      · rintro (z | z)
        · exact h1 (up z)
        · cases z
          exact h1 (avD n2)⟩
    have nd : ¬ c.av n2 A D := by
      rintro (z | ⟨j, z⟩)
      · exact e2.nP hA1 z
      · have nj : j ≠ kD := fun e => by
          rw [e, hAk] at z
          cases z
        exact nj (e2.inj j kD D (by rw [sameA j nj]; exact z) hA1)
    refine k _ _ n2 H2 (wd acc n2 w) (f1.trans fE) ⟨D, vals, rfl, ⟨(Fresh.of hD).fr f1, nd⟩, hv, rv.ex fun b o _ e => ?_⟩
    obtain ⟨h1, h2⟩ := msk_some e
    rw [msk_out]
    · exact h2
    · rintro ((z | ⟨j, z⟩) | z)
      · exact h1 (.inl z)
      · by_cases e : j = kD
        · rw [e, hAk] at z
          cases z
        · exact h1 (.inr ⟨j, by rw [sameA j e]; exact z⟩)
      · exact h1 (by rw [z]; exact avD n2)
end
section
variable [Bas] [Tabz]
local instance (priority := high) yoFam7 : Fam := famS
theorem sset_sset {S : Sto} {a : Addr} {o o' : SO} : sset (sset S a o) a o' = sset S a o' := by
  funext b
  by_cases e : b = a
  · rw [e, sset_eq, sset_eq]
  · rw [sset_ne e, sset_ne e, sset_ne e]
theorem sset_self {S : Sto} {a : Addr} {o : SO} (h : S a = some o) : sset S a o = S := by
  funext b
  by_cases e : b = a
  · rw [e, sset_eq, h]
  · rw [sset_ne e]
theorem P_sset {c : EC} {n : Fam.S} {a : Addr} {o o' : SO} (h : n.2 a = some o) {b : Addr} : c.P (n.1, sset n.2 a o') b ↔ c.P n b := by
  have hp : c.P n a := .inr (by rw [h]; exact fun z => by cases z)
  constructor
  · rintro (p | p)
    · exact .inl p
    · by_cases e : b = a
      · rw [e]; exact hp
      · have p' : sset n.2 a o' b ≠ none := p
        rw [sset_ne e] at p'
        exact .inr p'
  · rintro (p | p)
    · exact .inl p
    · refine .inr ?_
      show sset n.2 a o' b ≠ none
      by_cases e : b = a
      · rw [e, sset_eq]; exact fun z => by cases z
      · rw [sset_ne e]; exact p
theorem av_ss {c : EC} {A : Nat → Option Addr} {n : Fam.S} {a : Addr} {o o' : SO} (h : n.2 a = some o) : c.av (n.1, sset n.2 a o') A = c.av n A := by
  funext b
  exact propext ⟨fun z => z.imp (fun z => z.imp id (P_sset h).mp) id, fun z => z.imp (fun z => z.imp id (P_sset h).mpr) id⟩
/-- a thing of the store is another: what else stays -/
theorem Stay.ss {c : EC} {n : Fam.S} {a : Addr} {o o' : SO} {u : HO} {H : Hp} (h : n.2 a = some o) (ut : ∀ ps, u ≠ HO.tbl ps) : Stay (c.P n) (c.P (n.1, sset n.2 a o')) H (upd H a u) := fun b v q e => by
  have hp : c.P n a := .inr (by rw [h]; exact fun z => by cases z)
  refine ⟨fun p => ?_, ?_⟩
  · have nb : b ≠ a := fun z => p (by rw [z]; exact hp)
    exact ⟨by rw [upd_ne nb]; exact e, fun z => p ((P_sset h).mp z)⟩
  · by_cases z : b = a
    · rw [z]
      exact ⟨u, upd_same, ut⟩
    · rw [upd_ne z]
      exact ⟨v, e, q⟩
theorem msk_av {B : Addr → Prop} {H : Hp} {a : Addr} {u : HO} (h : B a) : msk B (upd H a u) = msk B H := by
  funext b
  by_cases z : B b
  · unfold msk
    rw [if_pos z, if_pos z]
  · rw [msk_out z, msk_out z, upd_ne (fun e => z (by rw [e]; exact h))]
theorem FrV.smut {c : EC} {A : Nat → Option Addr} {n n1 : Fam.S} {H H1 : Hp} {v : V} {r : DV} (f : FrV c A n n1 H H1 v r) {a : Addr} {o o' : SO} {u : HO} (h : n1.2 a = some o) (hr : SReal (_root_.Rh.msk (hide r v (c.av n1 A)) H1) (upd H1 a u) a o') (ut : ∀ ps, u ≠ HO.tbl ps) : FrV c A n (n1.1, sset n1.2 a o') H (upd H1 a u) v r := by
  have hp : c.P n1 a := .inr (by rw [h]; exact fun z => by cases z)
  have ava : hide r v (c.av n1 A) a := hide_le (.inl (.inr hp))
  have g0 : c.G n1 (_root_.Rh.msk (hide r v (c.av n1 A)) H1) H1 := f.2
  obtain ⟨w, hw, wt, we⟩ := (g0.1.2 a o h).1.at
  have nBa : ¬ Bas.Pq c.u c.t a := (g0.1.2 a o h).2
  refine ⟨f.1.trans (Stay.ss h ut), ?_⟩
  rw [av_ss h, msk_av ava]
  refine ⟨⟨Bas.mv g0.1.1 fun b v p e => ?_, fun b v e => ?_⟩, Tabs_mvE g0.2 fun b v n1 e => ?_⟩
  · rw [upd_ne fun z => nBa (by rw [← z]; exact p)]
    exact e
  · have e' : sset n1.2 a o' b = some v := e
    by_cases z : b = a
    · subst z
      rw [sset_eq] at e'
      cases e'
      exact ⟨hr, nBa⟩
    · rw [sset_ne z] at e'
      obtain ⟨r1, r2⟩ := g0.1.2 b v e'
      exact ⟨r1.ex (fun _ _ _ h => h) fun _ h => by rw [upd_ne z]; exact h, r2⟩
  · rw [upd_ne]
    · exact e
    · intro z
      rw [z, hw] at e
      cases e
      rcases n1 with ⟨ps, q⟩ | ⟨φ, q⟩
      · exact wt ps q
      · exact we φ q
theorem VOk.smut {c : EC} {A : Nat → Option Addr} {n1 : Fam.S} {H H1 : Hp} {v : V} {r : DV} {a : Addr} {o o' : SO} {u : HO} (h : n1.2 a = some o) (ok : VOk c.t (c.av n1 A) H v H1 r) : VOk c.t (c.av (n1.1, sset n1.2 a o') A) H v (upd H1 a u) r := by
  have ava : c.av n1 A a := .inl (.inr (.inr (by rw [h]; exact fun z => by cases z)))
  rw [av_ss h]
  cases r with
  | un => exact ok
  | tape => exact ok
  | raw v => exact ok
  | d x =>
    show Rp (msk (c.av n1 A) (upd H1 a u)) v x
    rw [msk_av ava]
    exact ok
  | own ds =>
    obtain ⟨p, vs, h1, h2, h3, h4⟩ := ok
    have np : p ≠ a := fun z => h2.2 (by rw [z]; exact ava)
    exact ⟨p, vs, h1, h2, by rw [upd_ne np]; exact h3, by rw [msk_av (.inl ava)]; exact h4⟩
  | dic ds =>
    obtain ⟨p, vs, h1, h2, h3, h4⟩ := ok
    have np : p ≠ a := fun z => h2.2 (by rw [z]; exact ava)
    exact ⟨p, vs, h1, h2, by rw [upd_ne np]; exact h3, by rw [msk_av (.inl ava)]; exact h4⟩
/-- while a dict of the store is walked it is locked -/
def lkQ {α : Type} (a : Addr) (od : Obj) (ws : List (Key × V)) (kvs : List (Key × PyData)) (Q : α → Fam.S → Prop) : α → Fam.S → Prop := fun r n => n.2 a = some (.dF od ws kvs) ∧ Q r (n.1, sset n.2 a (.dK kvs))
def lkE (a : Addr) (od : Obj) (ws : List (Key × V)) (kvs : List (Key × PyData)) (E : DE) : DE := ⟨lkQ a od ws kvs E.nx, lkQ a od ws kvs E.rt, lkQ a od ws kvs E.bk, lkQ a od ws kvs E.ct⟩
def dLock (F : DS) : DS := fun E ρ n => ∃ a kvs, n.2 a = some (.dK kvs) ∧ ∀ od ws, F (lkE a od ws kvs E) ρ (n.1, sset n.2 a (.dF od ws kvs))
theorem psLock {X : Cx} {st : Stmt} {F : DS} (h : PS X st (sD F)) : PS X st (sD (dLock F)) := (ps_lock h).imp fun D σ H ⟨c, A, n, ρ, E, e, ⟨a, kvs, es, hF⟩, L⟩ => by
  obtain ⟨⟨ws, h1, h2⟩, _⟩ := e.sat es
  have un : ∀ {A : Nat → Option Addr} {n : Fam.S} {σ : L2.St} {H : Hp} {ρ : List DV} {od : Obj}, EnvA c A n σ H ρ → n.2 a = some (.dF od ws kvs) → H a = some (.frz od (.dK ws)) ∧ EnvA c A (n.1, sset n.2 a (.dK kvs)) σ (upd H a (.dK ws)) ρ := fun e z => by
    obtain ⟨⟨q1, q2⟩, _⟩ := e.sat z
    exact ⟨q1, e.smut z ⟨ws, upd_same, q2⟩ (fun _ z => by cases z)⟩
  refine ⟨a, .dK ws, h1, True.intro, fun od => ⟨c, A, _, ρ, _, e.smut es (o' := .dF od ws kvs) ⟨upd_same, h2⟩ (fun _ z => by cases z), hF od ws, ⟨?_, ?_, ?_, ?_⟩⟩⟩
  · exact fun A n σ H ρ ⟨z, hn⟩ e' => ⟨(un e' z).1, L.nx _ _ _ _ _ hn (un e' z).2⟩
  · intro v r n H' ⟨z, hn⟩ f o
    have g0 : c.G n (msk (hide r v (c.av n A0)) H') H' := f.2
    obtain ⟨⟨q1, q2⟩, _⟩ := g0.1.2 a _ z
    refine ⟨q1, L.rt v r _ _ hn (f.smut z ⟨ws, upd_same, q2⟩ (fun _ z => by cases z)) ?_⟩
    have o' : VOk c.t (c.av n A0) c.H0 v H' r := by rw [EC.B_A0]; exact o
    have := o'.smut (o' := .dK kvs) (u := .dK ws) z
    rw [EC.B_A0] at this
    exact this
  · exact fun A n σ H ρ ⟨z, hn⟩ e' => ⟨(un e' z).1, L.bk _ _ _ _ _ hn (un e' z).2⟩
  · exact fun A n σ H ρ ⟨z, hn⟩ e' => ⟨(un e' z).1, L.ct _ _ _ _ _ hn (un e' z).2⟩
def dLockE (f : DF) : DF := fun ρ n Q => ∃ a kvs, n.2 a = some (.dK kvs) ∧ ∀ od ws, f ρ (n.1, sset n.2 a (.dF od ws kvs)) (lkQ a od ws kvs Q)
theorem pdLock {X : Cx} {e : Expr} {f : DF} (h : PE X e (tD f)) : PE X e (tD (dLockE f)) := (pe_lock h).imp fun σ H Q ⟨c, A, n, ρ, Q', E, ⟨a, kvs, es, hf⟩, k⟩ => by
  obtain ⟨⟨ws, h1, h2⟩, _⟩ := E.sat es
  refine ⟨a, .dK ws, h1, True.intro, fun od => ⟨c, A, _, ρ, _, E.smut es (o' := .dF od ws kvs) ⟨upd_same, h2⟩ (fun _ z => by cases z), hf od ws, fun v r n' H' ⟨z, hq⟩ f o => ?_⟩⟩
  have g0 : c.G n' (msk (hide r v (c.av n' A)) H') H' := f.2
  obtain ⟨⟨q1, q2⟩, _⟩ := g0.1.2 a _ z
  have f2 := f.smut z (o' := .dK kvs) (u := .dK ws) ⟨ws, upd_same, q2⟩ (fun _ z => by cases z)
  refine ⟨q1, k v r _ _ hq ⟨(Stay.ss es (o' := .dF od ws kvs) (u := .frz od (.dK ws)) (fun _ z => by cases z)).trans f2.1, f2.2⟩ ?_⟩
  have o2 := o.smut (o' := .dK kvs) (u := .dK ws) z
  have fr : ∀ {p : Addr}, Fresh (upd H a (.frz od (.dK ws))) p → Fresh H p := fun {p} hp x ex => by
    by_cases e : p = a
    · obtain ⟨ps, q⟩ := hp (.frz od (.dK ws)) (by rw [e]; exact upd_same)
      cases q
    · exact hp x (by rw [upd_ne e]; exact ex)
  cases r with
  | own ds =>
    obtain ⟨p, vs, h1, h2, h3, h4⟩ := o2
    exact ⟨p, vs, h1, ⟨fr h2.1, h2.2⟩, h3, h4⟩
  | dic ds =>
    obtain ⟨p, vs, h1, h2, h3, h4⟩ := o2
    exact ⟨p, vs, h1, ⟨fr h2.1, h2.2⟩, h3, h4⟩
  | _ => exact o2
/-- for k in d, d locked -/
def keysD (kvs : List (Key × PyData)) : List PyData := kvs.map fun kv => kD kv.1
def dInK (f : DF) : DIS := fun ρ n Q => f ρ n fun x n1 => ∃ a od ws kvs, x = .d (hnd a) ∧ n1.2 a = some (.dF od ws kvs) ∧ Q (keysD kvs) (fun n => n.2 a = some (.dF od ws kvs)) n1
theorem KRp.key {M : Hp} {ws : List (Key × V)} {kvs : List (Key × PyData)} (r : KRp M ws kvs) {i : Nat} {d : PyData} (h : (keysD kvs)[i]? = some d) : ∃ k v, ws[i]? = some (k, v) ∧ d = kD k := by
  induction r generalizing i with
  | nil => cases h
  | @cons k v d0 ws kvs _ _ ih =>
    cases i with
    | zero =>
      cases h
      exact ⟨k, v, rfl, rfl⟩
    | succ i => exact ih h
theorem piKeysH {X : Cx} {tg e : Expr} {f : DF} (h : PE X e (tD f)) : PI X tg e (iDS (dInK f)) := (pi_keys h).imp fun σ H R ⟨c, A, n, ρ, Q', E, hf, k⟩ => by
  refine ⟨c, A, n, ρ, _, E, hf, fun v r n1 H1 ⟨a, od, ws, kvs, ex, es, hq⟩ f1 o1 => ?_⟩
  subst ex
  cases o1
  have E1 := E.fr f1
  obtain ⟨⟨q1, q2⟩, _⟩ := E1.sat es
  refine ⟨a, od, rfl, .inl ⟨ws, q1, k _ _ _ n1 H1 [] hq f1.fr (fun p hp => by cases hp) fun A' n' σ' H' ρ' e' hI => ?_⟩⟩
  obtain ⟨⟨g1, g2⟩, _⟩ := e'.sat hI
  have kl : (keysD kvs).length = ws.length := by rw [keysD, List.length_map, g2.length]
  refine ⟨fun i d hd => ?_, ⟨g1, by rw [kl]; exact Nat.le_refl _⟩⟩
  obtain ⟨k0, v0, e1, rfl⟩ := g2.key hd
  refine ⟨⟨g1, (List.getElem?_eq_some_iff.mp e1).1⟩, fun x H2 ⟨eH, k1, v1, e2, ex⟩ => ?_⟩
  subst eH ex
  rw [e1] at e2
  cases e2
  exact ⟨fun _ _ h => h, kV_kD _⟩
/-- for x in xs, xs a list of the store -/
def dInH (f : DF) : DIS := fun ρ n Q => f ρ n fun x n1 => ∃ a ds, x = .d (hnd a) ∧ n1.2 a = some (.lst ds) ∧ Q ds (fun n => n.2 a = some (.lst ds)) n1
theorem piListH {X : Cx} {tg e : Expr} {f : DF} (h : PE X e (tD f)) : PI X tg e (iDS (dInH f)) := (pi_list h).imp fun σ H R ⟨c, A, n, ρ, Q', E, hf, k⟩ => by
  refine ⟨c, A, n, ρ, _, E, hf, fun v r n1 H1 ⟨a, ds, ex, es, hq⟩ f1 o1 => ?_⟩
  subst ex
  cases o1
  have E1 := E.fr f1
  obtain ⟨⟨xs, q1, q2⟩, _⟩ := E1.sat es
  refine ⟨a, rfl, ⟨xs, SqL.of q1⟩, k ds _ _ n1 H1 [] hq f1.fr (fun p hp => by cases hp) fun A' n' σ' H' ρ' e' hI => ?_⟩
  obtain ⟨⟨ys, g1, g2⟩, _⟩ := e'.sat hI
  have hl := g2.length
  have hs := SqL.of (K := X.K) g1
  refine ⟨fun i d hd => ?_, walk_list.stops H' hs |> fun z => by rw [← hl]; exact z⟩
  obtain ⟨y, e2, r2⟩ := g2.get hd
  exact ⟨walk_list.goes i H' (List.getElem?_eq_some_iff.mp e2).1 hs, fun x H2 yl => by
    obtain ⟨rfl, e3⟩ := walk_list.yields i H' x H2 (List.getElem?_eq_some_iff.mp e2).1 hs yl
    rw [e2] at e3
    cases e3
    exact ⟨fun _ _ h => h, r2⟩⟩
end

/-! ### k in d, k not in d: a dict of one's own -/
section
variable [Fam] [Tabz]
theorem din_le {neg : Bool} {i : Nat} {fe : DF} (σ : L2.St) (H : Hp) (Q : Bool → Hp → Prop) (q : tDT (dTest (dDIn neg i fe)) σ H Q) :
    tD fe σ H fun y H1 => tVar i σ H1 fun x H2 => ∃ a o, x = .ref a ∧ DGet H2 a y o ∧ ∃ b, V.bl (if neg then !o.isSome else o.isSome) = .bl b ∧ Q b H2 := by
  obtain ⟨c, A, n, ρ, Q', E, ⟨⟨kvs0, e0⟩, hf⟩, k⟩ := q
  refine ⟨c, A, n, ρ, _, E, hf, fun v x n1 H1 ⟨key, ex, kvs, e1, hq⟩ f1 o1 => ?_⟩
  subst ex
  have E1 := E.fr f1
  obtain ⟨a, ws, k1, k2, k3, k4⟩ := E1.slot i _ e1
  obtain rfl := kD_kV (show Rp _ v (kD key) from o1)
  have es : (valV ws key).isSome = (valD kvs key).isSome := by
    rcases k4.val key with ⟨q1, q2⟩ | ⟨u, d, q1, q2, rp⟩ <;> rw [q1, q2] <;> rfl
  obtain ⟨b, eb, hq⟩ := hq
  cases eb
  refine ⟨.ref a, k2, a, _, rfl, .inl ⟨ws, key, .inl k3, rfl, rfl⟩, _, rfl, ?_⟩
  rw [es]
  exact k _ n1 H1 hq f1
theorem ptCmpDIn {X : Cx} {e o : Expr} {pos : Pos} {i : Nat} {fe : DF} (hu : X.A.units + 1 < cLine) (ho : PE X o (tVar i)) (he : PE X e (tD fe)) (hm : behindInMarks .In o = false := by rfl) : PT X (.Compare e [.In] [o] pos) (tDT (dTest (dDIn false i fe))) := (pt_cmp (pc_din hu he ho) hm).imp fun σ H Q q => din_le σ H Q q
theorem ptCmpDNotIn {X : Cx} {e o : Expr} {pos : Pos} {i : Nat} {fe : DF} (hu : X.A.units + 1 < cLine) (ho : PE X o (tVar i)) (he : PE X e (tD fe)) (hm : behindInMarks .NotIn o = false := by rfl) : PT X (.Compare e [.NotIn] [o] pos) (tDT (dTest (dDIn true i fe))) := (pt_cmp (pc_dnotin hu he ho) hm).imp fun σ H Q q => din_le σ H Q q
end

/-! ### what stands in the store: dicts, lists, instances -/
section
variable [Bas] [Tabz]
local instance (priority := high) yoFam8 : Fam := famS
/-- k in d, k not in d -/
def dInHd (neg : Bool) (f g : DF) : DT := fun ρ n Q => f ρ n fun y n1 => g ρ n1 fun x n2 => ∃ k : Key, y = .d (kD k) ∧ ∃ a, x = .d (hnd a) ∧ ∃ kvs, dkv n2.2 a = some kvs ∧ Q (if neg then !(valD kvs k).isSome else (valD kvs k).isSome) n2
theorem inH_le {neg : Bool} {f g : DF} (σ : L2.St) (H : Hp) (Q : Bool → Hp → Prop) (q : tDT (dInHd neg f g) σ H Q) :
    tD f σ H fun y H1 => tD g σ H1 fun x H2 => ∃ a o, x = .ref a ∧ DGet H2 a y o ∧ ∃ b, V.bl (if neg then !o.isSome else o.isSome) = .bl b ∧ Q b H2 := by
  obtain ⟨c, A, n, ρ, Q', E, hf, k⟩ := q
  refine ⟨c, A, n, ρ, _, E, hf, fun v y n1 H1 hg f1 o1 => ⟨c, A, n1, ρ, _, E.fr f1, hg, fun u x n2 H2 ⟨key, ey, a, ex, kvs, es, hq⟩ f2 o2 => ?_⟩⟩
  subst ey ex
  cases o2
  obtain ⟨ws, h1, h2⟩ := ((E.fr f1).fr f2).dict es
  obtain rfl := kD_kV (show Rp _ v (kD key) from o1)
  have es : (valV ws key).isSome = (valD kvs key).isSome := by
    rcases h2.val key with ⟨q1, q2⟩ | ⟨u, d, q1, q2, rp⟩ <;> rw [q1, q2] <;> rfl
  refine ⟨a, _, rfl, .inl ⟨ws, key, h1, rfl, rfl⟩, _, rfl, ?_⟩
  rw [es]
  exact k _ n2 H2 hq (f1.trans f2).fr
theorem ptInH {X : Cx} {e o : Expr} {pos : Pos} {f g : DF} (hu : X.A.units + 1 < cLine) (he : PE X e (tD f)) (ho : PE X o (tD g)) (hm : behindInMarks .In o = false := by rfl) : PT X (.Compare e [.In] [o] pos) (tDT (dInHd false f g)) := (pt_cmp (pc_din hu he ho) hm).imp fun σ H Q q => inH_le σ H Q q
theorem ptNotInH {X : Cx} {e o : Expr} {pos : Pos} {f g : DF} (hu : X.A.units + 1 < cLine) (he : PE X e (tD f)) (ho : PE X o (tD g)) (hm : behindInMarks .NotIn o = false := by rfl) : PT X (.Compare e [.NotIn] [o] pos) (tDT (dInHd true f g)) := (pt_cmp (pc_dnotin hu he ho) hm).imp fun σ H Q q => inH_le σ H Q q
/-- d.get(k, x), d.get(k) -/
def dGet2H (fo f g : DF) : DF := fun ρ n Q => fo ρ n fun x n1 => ∃ a, x = .d (hnd a) ∧ (∃ kvs0, dkv n1.2 a = some kvs0) ∧ f ρ n1 fun y n2 => ∃ k : Key, y = .d (kD k) ∧ g ρ n2 fun z n3 => ∃ kvs, dkv n3.2 a = some kvs ∧ ∃ w, z.dat = some w ∧ Q (.d ((valD kvs k).getD w)) n3
theorem pdGet2H {X : Cx} {o e f : Expr} {apos cpos : Pos} {fo fe ff : DF} (hu : X.A.units + 1 < cLine) (ho : PE X o (tD fo)) (he : PE X e (tD fe)) (hf : PE X f (tD ff)) (m : M2 X o "get" apos e f cpos) : PE X (.Call (.Attribute o "get" apos) [e, f] [] cpos) (tD (dGet2H fo fe ff)) := (pe_dget2 hu ho he hf m).imp fun σ H Q ⟨c, A, n, ρ, Q', E, hf, k⟩ => by
  refine ⟨c, A, n, ρ, _, E, hf, fun v x n1 H1 ⟨a, ex, ⟨kvs0, e0⟩, hg⟩ f1 o1 => ?_⟩
  subst ex
  cases o1
  have E1 := E.fr f1
  obtain ⟨ws0, w1, w2⟩ := E1.dict e0
  refine ⟨a, rfl, .inl ⟨ws0, w1⟩, c, A, n1, ρ, _, E1, hg, fun v y n2 H2 ⟨key, ey, hz⟩ f2 o2 => ⟨c, A, n2, ρ, _, E1.fr f2, hz, fun w z n3 H3 ⟨kvs, e1, u, ez, hq⟩ f3 o3 => ?_⟩⟩
  subst ey
  have E3 := (E1.fr f2).fr f3
  obtain ⟨ws, h1, h2⟩ := E3.dict e1
  obtain rfl := kD_kV (show Rp _ v (kD key) from o2)
  refine ⟨valV ws key, .inl ⟨ws, key, h1, rfl, rfl⟩, ?_⟩
  rcases h2.val key with ⟨q1, q2⟩ | ⟨u, d, q1, q2, rp⟩
  · rw [q2] at hq
    rw [q1]
    exact k w _ n3 H3 hq ((f1.trans f2).trans f3.fr) (o3.dat (E1.fr f2) ez)
  · rw [q2] at hq
    rw [q1]
    exact k u _ n3 H3 hq ((f1.trans f2).trans f3.fr) rp
def dGet1H (fo f : DF) : DF := fun ρ n Q => fo ρ n fun x n1 => ∃ a, x = .d (hnd a) ∧ (∃ kvs0, dkv n1.2 a = some kvs0) ∧ f ρ n1 fun y n2 => ∃ k : Key, y = .d (kD k) ∧ ∃ kvs, dkv n2.2 a = some kvs ∧ Q (.d ((valD kvs k).getD .none)) n2
theorem pdGet1H {X : Cx} {o e : Expr} {apos cpos : Pos} {fo fe : DF} (hu : X.A.units + 1 < cLine) (ho : PE X o (tD fo)) (he : PE X e (tD fe)) (m : M1 X o "get" apos e cpos) : PE X (.Call (.Attribute o "get" apos) [e] [] cpos) (tD (dGet1H fo fe)) := (pe_dget1 hu ho he m).imp fun σ H Q ⟨c, A, n, ρ, Q', E, hf, k⟩ => by
  refine ⟨c, A, n, ρ, _, E, hf, fun v x n1 H1 ⟨a, ex, ⟨kvs0, e0⟩, hg⟩ f1 o1 => ?_⟩
  subst ex
  cases o1
  have E1 := E.fr f1
  obtain ⟨ws0, w1, w2⟩ := E1.dict e0
  refine ⟨a, rfl, .inl ⟨ws0, w1⟩, c, A, n1, ρ, _, E1, hg, fun v y n2 H2 ⟨key, ey, kvs, e1, hq⟩ f2 o2 => ?_⟩
  subst ey
  have E2 := E1.fr f2
  obtain ⟨ws, h1, h2⟩ := E2.dict e1
  obtain rfl := kD_kV (show Rp _ v (kD key) from o2)
  refine ⟨valV ws key, .inl ⟨ws, key, h1, rfl, rfl⟩, ?_⟩
  rcases h2.val key with ⟨q1, q2⟩ | ⟨u, d, q1, q2, rp⟩
  · rw [q2] at hq
    rw [q1]
    exact k .non _ n2 H2 hq (f1.trans f2.fr) Rp.non
  · rw [q2] at hq
    rw [q1]
    exact k u _ n2 H2 hq (f1.trans f2.fr) rp
/-- len(d), len(xs) -/
def dLenH (f : DF) : DF := fun ρ n Q => f ρ n fun x n1 => ∃ a, x = .d (hnd a) ∧ ∃ o, n1.2 a = some o ∧ ∃ l : Nat, (match o with | .lst ds => some ds.length | .dK kvs => some kvs.length | _ => none) = some l ∧ Q (.d (.int (l : Nat))) n1
abbrev rLenA (K : PySem.W.Frag) : List V → Hp → VK → Prop := fun xs H Q => (∃ a kvs, xs = [V.ref a] ∧ H a = some (.dK kvs) ∧ Q (.int kvs.length) H) ∨ ∃ p ys, xs = [V.ref p] ∧ (SqL K H p ys ∨ SqT K H p ys) ∧ Q (.int (ys.length : Nat)) H
theorem call_lenA {X : Cx} : CallR X (.builtin "len") (rLenA X.K) := callR_or call_lenD call_len_seq
theorem pdLenH {X : Cx} {p pos : Pos} {e : Expr} {f : DF} (h : PE X (.Call (.Name "len" p) [e] [] pos) (tCB (rLenA X.K) (tCons (tD f) tNil))) : PE X (.Call (.Name "len" p) [e] [] pos) (tD (dLenH f)) := h.imp fun σ H Q ⟨c, A, n, ρ, Q', E, hf, k⟩ => by
  refine ⟨c, A, n, ρ, _, E, hf, fun v x n1 H1 ⟨a, ex, o, es, l, el, hq⟩ f1 o1 => ?_⟩
  subst ex
  cases o1
  obtain ⟨r, _⟩ := (E.fr f1).sat es
  cases o with
  | lst ds =>
    cases el
    obtain ⟨vs, h1, h2⟩ := r
    refine .inr ⟨a, vs, rfl, .inl (SqL.of h1), ?_⟩
    rw [h2.length]
    exact k _ _ n1 H1 hq f1.fr (Rp.int _)
  | dK kvs =>
    cases el
    obtain ⟨vs, h1, h2⟩ := r
    refine .inl ⟨a, vs, rfl, h1, ?_⟩
    rw [h2.length]
    exact k _ _ n1 H1 hq f1.fr (Rp.int _)
  | dF od ws kvs => cases el
  | ins C fs => cases el
/-- len(d), d one's own -/
def dLenD (i : Nat) : DF := fun ρ n Q => ∃ kvs, ρ[i]? = some (.dic kvs) ∧ Q (.d (.int (kvs.length : Nat))) n
theorem pdLenD {X : Cx} {p pos : Pos} {e : Expr} {i : Nat} (h : PE X (.Call (.Name "len" p) [e] [] pos) (tCB (fun xs H Q => ∃ a kvs, xs = [V.ref a] ∧ H a = some (.dK kvs) ∧ Q (.int kvs.length) H) (tCons (tVar i) tNil))) : PE X (.Call (.Name "len" p) [e] [] pos) (tD (dLenD i)) := h.imp fun σ H Q ⟨c, A, n, ρ, Q', E, ⟨kvs, ex, hq⟩, k⟩ => by
  obtain ⟨a, ws, h1, h2, h3, h4⟩ := E.slot i _ ex
  refine ⟨_, h2, a, ws, rfl, h3, ?_⟩
  rw [h4.length]
  exact k _ _ n H hq (.refl E.g) (Rp.int _)
/-- xs[i], xs a list of the store -/
def dIxH (f g : DF) : DF := fun ρ n Q => f ρ n fun x n1 => g ρ n1 fun y n2 => ∃ a, x = .d (hnd a) ∧ ∃ i, y = .d (.int i) ∧ ∃ ds, n2.2 a = some (.lst ds) ∧ ∃ d, atI ds i = some d ∧ Q (.d d) n2
theorem pdIxH {X : Cx} {o e : Expr} {pos : Pos} {f g : DF} (h : PE X (.Subscript o e pos) (fun σ H Q => tD f σ H fun x H1 => tD g σ H1 fun y H2 => rIxL X.K x y H2 Q)) : PE X (.Subscript o e pos) (tD (dIxH f g)) := h.imp fun σ H Q ⟨c, A, n, ρ, Q', E, hf, k⟩ => by
  refine ⟨c, A, n, ρ, _, E, hf, fun v x n1 H1 hg f1 o1 => ⟨c, A, n1, ρ, _, E.fr f1, hg, fun w y n2 H2 ⟨a, ex, i, ey, ds, es, d, ed, hq⟩ f2 o2 => ?_⟩⟩
  subst ex ey
  cases o1
  cases o2
  obtain ⟨⟨vs, h1, h2⟩, _⟩ := ((E.fr f1).fr f2).sat es
  obtain ⟨u, q1, q2⟩ := h2.atI ed
  exact ⟨a, vs, i, u, rfl, rfl, SqL.of h1, q1, k u _ n2 H2 hq (f1.trans f2.fr) q2⟩
/-- xs[i] = v -/
def dIxPH (f g fv : DF) : DS := fun E ρ n => fv ρ n fun y n1 => f ρ n1 fun x n2 => g ρ n2 fun j n3 => ∃ a, x = .d (hnd a) ∧ ∃ i, j = .d (.int i) ∧ ∃ z, y.dat = some z ∧ ∃ ds, n3.2 a = some (.lst ds) ∧ ∃ k, ixN ds.length i = some k ∧ E.nx ρ (n3.1, sset n3.2 a (.lst (ds.set k z)))
theorem psIxPH {X : Cx} {o e value : Expr} {pos pos' : Pos} {f g fv : DF} (ho : PE X o (tD f)) (he : PE X e (tD g)) (hv : PE X value (tD fv)) (h : PS X (.Assign [.Subscript o e pos'] value pos) (fun D σ H => tD fv σ H fun v H1 => tD f σ H1 fun x H2 => tD g σ H2 fun j H3 => rSetL x j v H3 fun H4 => D.nx σ H4)) :
    PS X (.Assign [.Subscript o e pos'] value pos) (sD (dIxPH f g fv)) := h.imp fun D σ H ⟨c, A, n, ρ, E, e, hf, L⟩ => by
  refine ⟨c, A, n, ρ, _, e, hf, fun v y n1 H1 hg f1 o1 => ⟨c, A, n1, ρ, _, e.fr f1, hg, fun w x n2 H2 hg2 f2 o2 => ⟨c, A, n2, ρ, _, (e.fr f1).fr f2, hg2, fun kv j n3 H3 ⟨a, ex, i, ej, z, ez, ds, es, k, ek, hn⟩ f3 o3 => ?_⟩⟩⟩
  subst ex ej
  cases o2
  cases o3
  have E3 := ((e.fr f1).fr f2).fr f3
  obtain ⟨⟨vs, h1, h2⟩, _⟩ := E3.sat es
  have rv : Rp (msk (c.av n3 A) H3) v z := ((o1.dat e ez).ex f2.msk).ex f3.msk
  exact ⟨a, vs, i, k, rfl, rfl, h1, by rw [h2.length]; exact ek, L.nx _ _ _ _ _ hn (E3.smut es ⟨_, upd_same, RpA.set rv k h2⟩ (fun _ z => by cases z))⟩
/-- xs.pop(i) -/
def dPopH (f g : DF) : DF := fun ρ n Q => f ρ n fun x n1 => ∃ a ds0, x = .d (hnd a) ∧ n1.2 a = some (.lst ds0) ∧ g ρ n1 fun y n2 => ∃ i k d ds, y = .d (.int i) ∧ n2.2 a = some (.lst ds) ∧ -(2 ^ 63) ≤ i ∧ i < 2 ^ 63 ∧ seqIndex? i ds.length = some k ∧ ds[k]? = some d ∧ Q (.d d) (n2.1, sset n2.2 a (.lst (ds.eraseIdx k)))
theorem RpA.erase {M : Hp} : ∀ {vs : List V} {ds : List PyData} (k : Nat), RpA M vs ds → RpA M (vs.eraseIdx k) (ds.eraseIdx k)
  | _, _, _, .nil => .nil
  | _, _, 0, .cons _ t => t
  | _, _, k + 1, .cons r t => .cons r (RpA.erase k t)
theorem FrV.step {c : EC} {A : Nat → Option Addr} {n n1 n2 : Fam.S} {σ : L2.St} {H H1 H2 : Hp} {ρ : List DV} {v w : V} {r : DV} {d : PyData} (f : FrV c A n n1 H H1 v r) (s : Stay (c.P n1) (c.P n2) H1 H2) (E : EnvA c A n2 σ H2 ρ) : FrV c A n n2 H H2 w (.d d) := ⟨f.1.trans s, E.g⟩
theorem pdPopH {X : Cx} {e : Expr} {f g : DF} (h : PE X e (tBM X.K "list" rPopAt (tD f) (tCons (tD g) tNil))) : PE X e (tD (dPopH f g)) := h.imp fun σ H Q ⟨c, A, n, ρ, Q', E, hf, k⟩ => by
  refine ⟨c, A, n, ρ, _, E, hf, fun v x n1 H1 ⟨a, ds0, ex, e0, hg⟩ f1 o1 => ?_⟩
  subst ex
  cases o1
  have E1 := E.fr f1
  obtain ⟨⟨vs0, w1, _⟩, _⟩ := E1.sat e0
  refine ⟨.inl ⟨rfl, _, SqL.of w1⟩, c, A, n1, ρ, _, E1, hg, fun w y n2 H2 ⟨i, j, d, ds, ey, es, l1, l2, ej, ed, hq⟩ f2 o2 => ?_⟩
  subst ey
  cases o2
  have E2 := E1.fr f2
  obtain ⟨⟨vs, h1, h2⟩, _⟩ := E2.sat es
  obtain ⟨u, q1, q2⟩ := h2.get ed
  have E3 := E2.smut es (o' := .lst (ds.eraseIdx j)) (u := .lst (vs.eraseIdx j)) ⟨_, upd_same, h2.erase j⟩ (fun _ z => by cases z)
  have st := Stay.ss es (o' := .lst (ds.eraseIdx j)) (u := .lst (vs.eraseIdx j)) (H := H2) (c := c) (fun _ z => by cases z)
  refine ⟨a, vs, i, j, u, rfl, rfl, h1, l1, l2, by rw [h2.length]; exact ej, q1, k u _ _ _ hq ((f1.trans f2).step st E3) ?_⟩
  have av := av_ss (A := A) (c := c) (o' := SO.lst (ds.eraseIdx j)) es
  show Rp (msk (c.av (n2.1, sset n2.2 a (.lst (ds.eraseIdx j))) A) _) u d
  rw [av, msk_av (.inl (.inr (.inr (by rw [es]; exact fun z => by cases z))))]
  exact q2
/-! ### instances -/
theorem SRp.look {M : Hp} {ws : List (Str × V)} {fs : List (Str × PyData)} (r : SRp M ws fs) (f : Str) : (ws.lookup f = none ∧ fs.lookup f = none) ∨ ∃ v d, ws.lookup f = some v ∧ fs.lookup f = some d ∧ Rp M v d := by
  induction r with
  | nil => exact .inl ⟨rfl, rfl⟩
  | @cons g v d ws fs h _ ih =>
    rw [List.lookup_cons, List.lookup_cons]
    by_cases q : f = g
    · rw [beq_iff_eq.mpr q]
      exact .inr ⟨v, d, rfl, rfl, h⟩
    · rw [beq_eq_false_iff_ne.mpr q]
      exact ih
theorem SRp.length {M : Hp} {ws : List (Str × V)} {fs : List (Str × PyData)} (r : SRp M ws fs) : ws.length = fs.length := by
  induction r with
  | nil => rfl
  | cons _ _ ih => exact congrArg Nat.succ ih
def putS (f : Str) (d : PyData) : List (Str × PyData) → List (Str × PyData)
  | [] => [(f, d)]
  | (g, x) :: r => if g = f then (g, d) :: r else (g, x) :: putS f d r
theorem SRp.put {M : Hp} {ws : List (Str × V)} {fs : List (Str × PyData)} (r : SRp M ws fs) {f : Str} {v : V} {d : PyData} (h : Rp M v d) : SRp M (putF f v ws) (putS f d fs) := by
  induction r with
  | nil => exact .cons h .nil
  | @cons g x y ws fs h0 t ih =>
    unfold putF putS
    by_cases q : g = f
    · rw [if_pos q, if_pos q]
      exact .cons h t
    · rw [if_neg q, if_neg q]
      exact .cons h0 ih
/-- the facts of a class: plain, and none of these names is an attribute of it -/
structure InsC (K : PySem.W.Frag) (C : Addr) (xs : List Str) : Prop where
  cl : Cls K C
  no : ∀ x ∈ xs, NoAttr K C x
/-- .. and the class is made by its name -/
structure ClsI (K : PySem.W.Frag) (mg : Str → Option Value) (x : Str) (C : Addr) (xs : List Str) : Prop extends InsC K C xs where
  makes : PySem.W.makesIn K C = true
  kp : PySem.W.keepIn K (.ref C) = true
  mgc : mg x = some (.ref C)
/-- a method stands, as a def's contract does -/
def MCal (P : Program) (w : World) (K : PySem.W.Frag) (mg : Str → Option Value) (base : Heap) (C : Addr) (k : Nat) (x : Str) (ps : List Str) (sp : Sp) : Prop := ∃ f fd, FnOk P w K mg base CX0 k f fd ps sp ∧ Meth K C x f ∧ True ∧ Binds K fd ps []
theorem pdFld {X : Cx} {e : Expr} {x : Str} {pos : Pos} {f : DF} {C : Addr} {xs : List Str} (T : InsC X.K C xs) (hx : x ∈ xs) (he : PE X e (tD f)) (hb : attributeBase e x X.env (eval e X.env) = eval e X.env := by rfl) :
    PE X (.Attribute e x pos) (tD fun ρ n Q => f ρ n fun r n1 => ∃ a, r = .d (hnd a) ∧ ∃ fs, n1.2 a = some (.ins C fs) ∧ ∃ d, fs.lookup x = some d ∧ Q (.d d) n1) := (pe_fld he hb).imp fun σ H Q ⟨c, A, n, ρ, Q', E, hf, k⟩ => by
  refine ⟨c, A, n, ρ, _, E, hf, fun v r n1 H1 ⟨a, ex, fs, es, d, ed, hq⟩ f1 o1 => ?_⟩
  subst ex
  cases o1
  obtain ⟨⟨dx, ws, h1, h2⟩, _⟩ := (E.fr f1).sat es
  rcases h2.look x with ⟨_, q2⟩ | ⟨u, d', q1, q2, rp⟩
  · rw [q2] at ed
    cases ed
  · rw [q2] at ed
    cases ed
    exact ⟨a, C, dx, ws, u, rfl, h1, T.cl, T.no x hx, q1, k u _ n1 H1 hq f1.fr rp⟩
/-- o.f = e -/
theorem psFldS {X : Cx} {o value : Expr} {x : Str} {pos pos' : Pos} {f g : DF} {C : Addr} {xs : List Str} (T : InsC X.K C xs) (hx : x ∈ xs) (ho : PE X o (tD f)) (hv : PE X value (tD g)) (hs : swapsWith value (some (.Attribute o x pos')) pos.line X.env = pure false := by rfl) :
    PS X (.Assign [.Attribute o x pos'] value pos) (sD fun E ρ n => g ρ n fun y n1 => f ρ n1 fun r n2 => ∃ a, r = .d (hnd a) ∧ ∃ fs, n2.2 a = some (.ins C fs) ∧ fs.length < 1000 ∧ ∃ d, y.dat = some d ∧ E.nx ρ (n2.1, sset n2.2 a (.ins C (putS x d fs)))) := (ps_fld ho hv hs).imp fun D σ H ⟨c, A, n, ρ, E, e, hf, L⟩ => by
  refine ⟨c, A, n, ρ, _, e, hf, fun v y n1 H1 hg f1 o1 => ⟨c, A, n1, ρ, _, e.fr f1, hg, fun w r n2 H2 ⟨a, ex, fs, es, hl, d, ed, hn⟩ f2 o2 => ?_⟩⟩
  subst ex
  cases o2
  have E2 := (e.fr f1).fr f2
  obtain ⟨⟨dx, ws, h1, h2⟩, _⟩ := E2.sat es
  have rv : Rp (msk (c.av n2 A) H2) v d := (o1.dat e ed).ex f2.msk
  exact ⟨a, C, dx, ws, rfl, h1, T.cl, T.no x hx, by rw [h2.length]; exact hl, L.nx _ _ _ _ _ hn (E2.smut es ⟨dx, _, upd_same, h2.put rv⟩ (fun _ z => by cases z))⟩
/-- a new thing stands in the store -/
theorem EnvA.born {c : EC} {A : Nat → Option Addr} {n : Fam.S} {σ : L2.St} {H : Hp} {ρ : List DV} (E : EnvA c A n σ H ρ) {x : Addr} {o : SO} {u : HO} (hx : H x = none) (hr : SReal (msk (c.av n A) H) (upd H x u) x o) : n.2 x = none ∧ Stay (c.P n) (c.P (n.1, sset n.2 x o)) H (upd H x u) ∧ EnvA c A (n.1, sset n.2 x o) σ (upd H x u) ρ := by
  have nx : n.2 x = none := by
    cases e : n.2 x with
    | none => rfl
    | some o =>
      obtain ⟨w, h, _⟩ := (E.sat e).1.at
      rw [hx] at h
      cases h
  have nq : ¬ Bas.Pq c.u c.t x := fun p => by
    obtain ⟨xs, h⟩ := Bas.ty E.g.1.1 p
    rw [hx] at h
    cases h
  have nA : ∀ i, A i ≠ some x := fun i e => by
    obtain ⟨⟨o, h, _⟩, _⟩ := E.has i x e
    rw [hx] at h
    cases h
  have sm : ∀ b v, H b = some v → upd H x u b = some v := same_new hx
  have pp : ∀ {b : Addr}, b ≠ x → (c.P (n.1, sset n.2 x o) b ↔ c.P n b) := fun {b} nb => by
    show Bas.Pq _ _ b ∨ sset n.2 x o b ≠ none ↔ _
    rw [sset_ne nb]
    exact Iff.rfl
  have st : Stay (c.P n) (c.P (n.1, sset n.2 x o)) H (upd H x u) := fun b v q e => by
    have nb : b ≠ x := ne_of_none e hx
    exact ⟨fun p => ⟨sm b v e, fun z => p ((pp nb).mp z)⟩, v, sm b v e, q⟩
  have mk : msk (c.av (n.1, sset n.2 x o) A) (upd H x u) = msk (c.av n A) H := by
    funext b
    by_cases e : b = x
    · subst e
      have h1 : msk (c.av n A) H b = none := by rw [msk_out (E.apart (.of hx)), hx]
      rw [h1]
      unfold msk
      rw [if_pos]
      exact .inl (.inr (.inr (by show sset n.2 b o b ≠ none; rw [sset_eq]; exact fun z => by cases z)))
    · have h1 : c.av (n.1, sset n.2 x o) A b ↔ c.av n A b := ⟨fun z => z.imp (fun z => z.imp id (pp e).mp) id, fun z => z.imp (fun z => z.imp id (pp e).mpr) id⟩
      unfold msk
      rw [upd_ne e]
      by_cases z : c.av n A b
      · rw [if_pos z, if_pos (h1.mpr z)]
      · rw [if_neg z, if_neg fun q => z (h1.mp q)]
  refine ⟨nx, st, E.keep.trans st, ⟨⟨Bas.mv E.g.1.1 fun b v _ e => sm b v e, fun b v e => ?_⟩, Tabs_mvE E.g.2 fun b v _ e => sm b v e⟩, E.new, fun i a e => ?_, E.inj, fun i y e => ?_, E.len, fun p hp => by rw [mk]; exact E.pin p hp, E.fin, E.mine⟩
  · have e' : sset n.2 x o b = some v := e
    rw [mk]
    by_cases z : b = x
    · subst z
      rw [sset_eq] at e'
      cases e'
      exact ⟨hr, nq⟩
    · rw [sset_ne z] at e'
      obtain ⟨r1, r2⟩ := E.g.1.2 b v e'
      exact ⟨r1.ex (fun _ _ _ h => h) fun _ h => sm b _ h, r2⟩
  · obtain ⟨⟨o1, h1, h2⟩, h3⟩ := E.has i a e
    exact ⟨⟨o1, sm a o1 h1, h2⟩, fun z => h3 ((pp fun q => nA i (by rw [e, q])).mp z)⟩
  · rw [mk]
    exact (E.slot i y e).ex (fun _ _ _ h => h) fun b v _ _ h => sm b v h
/-- o.m(..) -/
def dMeth (C : Addr) (x : Str) (m : DM) (f : DF) (g : DA) : DF := fun ρ n Q => f ρ n fun r n1 => ∃ a, r = .d (hnd a) ∧ ∃ fs, n1.2 a = some (.ins C fs) ∧ fs.lookup x = none ∧ g ρ n1 fun rs n2 => m (.d (hnd a) :: rs) n2 Q
theorem meth_le {C : Addr} {x : Str} {m : DM} {f : DF} {g : DA} (hpl : ∀ rs n Q, m rs n Q → plainR rs) (E0 : XK) (σ : L2.St) (H : Hp) (Q : VK) (q : tD (dMeth C x m f g) σ H Q) : tMeth C x (spD m) [] E0 (tD f) (tDA g) σ H Q := by
  obtain ⟨c, A, n, ρ, Q', E, hf, k⟩ := q
  refine ⟨c, A, n, ρ, _, E, hf, fun v r n1 H1 ⟨a, ex, fs, es, el, hg⟩ f1 o1 => ?_⟩
  subst ex
  cases o1
  have E1 := E.fr f1
  obtain ⟨⟨dx, ws, h1, h2⟩, _⟩ := E1.sat es
  refine ⟨a, dx, ws, rfl, h1, ?_, c, A, n1, ρ, _, E1, hg, fun vs rs n2 H2 hm f2 o2 => ?_⟩
  · rcases h2.look x with ⟨q1, _⟩ | ⟨_, _, _, q2, _⟩
    · exact q1
    · rw [el] at q2
      cases q2
  have E2 := E1.fr f2
  show spD m (.ref a :: (vs ++ [])) H2 Q E0
  rw [List.append_nil]
  refine ⟨E2.ec, n2, .d (hnd a) :: rs, Q', rfl, rfl, by rw [E2.ec_B]; exact E2.g, rfl, ?_, hm, fun v r n' H' hq f3 o3 => ?_⟩
  · rw [E2.ec_B]
    exact .cons (Rp.hnd a) rfl (o2.now (m := n2) E1 fun r hr => hpl _ _ _ hm r (List.mem_cons_of_mem _ hr))
  · rw [E2.ec_B] at o3
    exact k v r n' H' hq ((f1.trans f2).trans (E2.ec_fr f3)) (VOk.mono E (f1.trans f2) o3)
theorem pdMeth {X : Cx} {CX : CXT} {k : Nat} {C f : Addr} {fd : FuncData} {ps : List Str} {m : DM} {x : Str} {apos pos : Pos} {o e : Expr} {es : List Expr} {fo : DF} {g : DA} {E0 : XK} {pl : Sem Bool} (hpl : ∀ rs n Q, m rs n Q → plainR rs) (cl : Cls X.K C) (hm : Meth X.K C x f) (F : FnOk X.prog X.w X.K X.mg X.base CX k f fd ps (spD m)) (hr : Room k X.A) (hb : Binds X.K fd ps []) (hx : Passes CX X E0) (ho : PE X o (tD fo))
    (ha : PA X (e :: es) (tDA g)) (hst : starEach (e :: es) X.env = (false, eval e X.env) :: starEach es X.env := by rfl) (hpl2 : (backTo pos (starEach es X.env)).any (·.1) = false := by rfl)
    (ht : eval (.Call (.Attribute o x apos) (e :: es) [] pos) X.env = (do
      let ov ← eval o X.env
      standAt apos.atName
      let (f, first) ← holding [ov] (getMethod ov x pl)
      callWith pos f first (backTo pos (starEach (e :: es) X.env)) (backToKw pos (keywordEach [] X.env))) := by rfl) :
    PE X (.Call (.Attribute o x apos) (e :: es) [] pos) (tD (dMeth C x m fo g)) := (pe_meth (pl := pl) ho cl hm F hr hb .nil hx ha hst hpl2 ht).imp (meth_le hpl E0)
theorem pdMeth0 {X : Cx} {CX : CXT} {k : Nat} {C f : Addr} {fd : FuncData} {ps : List Str} {m : DM} {x : Str} {apos pos : Pos} {o : Expr} {fo : DF} {E0 : XK} {pl : Sem Bool} (hpl : ∀ rs n Q, m rs n Q → plainR rs) (cl : Cls X.K C) (hm : Meth X.K C x f) (F : FnOk X.prog X.w X.K X.mg X.base CX k f fd ps (spD m)) (hr : Room k X.A) (hb : Binds X.K fd ps []) (hx : Passes CX X E0) (ho : PE X o (tD fo))
    (ht : eval (.Call (.Attribute o x apos) [] [] pos) X.env = (do
      let ov ← eval o X.env
      standAt apos.atName
      let (f, first) ← holding [ov] (getMethod ov x pl)
      callWith pos f first (backTo pos (starEach [] X.env)) (backToKw pos (keywordEach [] X.env))) := by rfl) :
    PE X (.Call (.Attribute o x apos) [] [] pos) (tD (dMeth C x m fo dNil)) := (pe_meth0 (pl := pl) ho cl hm F hr hb .nil hx ht).imp fun σ H Q q => by
  obtain ⟨c, A, n, ρ, Q', E, hf, k⟩ := q
  refine ⟨c, A, n, ρ, _, E, hf, fun v r n1 H1 ⟨a, ex, fs, es, el, hm⟩ f1 o1 => ?_⟩
  subst ex
  cases o1
  have E1 := E.fr f1
  obtain ⟨⟨dx, ws, h1, h2⟩, _⟩ := E1.sat es
  refine ⟨a, dx, ws, rfl, h1, ?_, ?_⟩
  · rcases h2.look x with ⟨q1, _⟩ | ⟨_, _, _, q2, _⟩
    · exact q1
    · rw [el] at q2
      cases q2
  refine ⟨E1.ec, n1, [.d (hnd a)], Q', rfl, rfl, by rw [E1.ec_B]; exact E1.g, rfl, ?_, hm, fun v r n' H' hq f3 o3 => ?_⟩
  · rw [E1.ec_B]
    exact .cons (Rp.hnd a) rfl .nil
  · rw [E1.ec_B] at o3
    exact k v r n' H' hq (f1.trans (E1.ec_fr f3)) (VOk.mono E f1 o3)
/-- C() -/
def dMake0 (C : Addr) (m : DM) : DF := fun _ n Q => ∀ a, n.2 a = none → m [.d (hnd a)] (n.1, sset n.2 a (.ins C [])) fun r n2 => r = .d .none ∧ Q (.d (hnd a)) n2
theorem pdMake0 {X : Cx} {CX : CXT} {k : Nat} {C f : Addr} {fd : FuncData} {ps : List Str} {m : DM} {x : Str} {p pos : Pos} {E0 : XK} (M : Mk X.K C f) (F : FnOk X.prog X.w X.K X.mg X.base CX k f fd ps (spD m)) (hr : Room (k + 1) X.A) (hg : Gl X x) (hm : X.mg x = some (.ref C)) (hb : Binds X.K fd ps []) (hx : Passes CX X E0) (hdb : (x == ("__debug__" : Str)) = false := by decide) :
    PE X (.Call (.Name x p) [] [] pos) (tD (dMake0 C m)) := (pe_make0 M F hr hg hm hb .nil hx hdb).imp fun σ H Q q => by
  obtain ⟨c, A, n, ρ, Q', E, hf, k⟩ := q
  intro x dx nx ndx nex
  have f1 : Fr c A n n H (upd H dx (.own x)) := Fr.new E.g ndx
  have E1 := E.fr f1
  have nx1 : upd H dx (.own x) x = none := by rw [upd_ne nex.symm]; exact nx
  obtain ⟨n0, st, E2⟩ := E1.born (o := .ins C []) (u := .ins C dx []) nx1 ⟨dx, [], upd_same, .nil⟩
  show spD m [.ref x] _ _ _
  refine ⟨E2.ec, _, [.d (hnd x)], _, rfl, rfl, by rw [E2.ec_B]; exact E2.g, rfl, by rw [E2.ec_B]; exact .cons (Rp.hnd x) rfl .nil, hf x n0, fun v r n' H' ⟨er, hq⟩ f3 o3 => ?_⟩
  subst er
  cases o3
  have f4 := E2.ec_fr f3
  exact ⟨rfl, k _ _ n' H' hq ⟨(f1.1.trans st).trans f4.1, f4.2⟩ (Rp.hnd x)⟩
end

/-! ### t[::-1], t a tuple of two -/
section
open PySem.Spec PyProof.Rows HT
theorem rev2_applied {prog : Program} {w : World} {A : Around} {E : Value → Shared → Prop} {s : Shared} {sl : Addr} {t : Tok} {Q : Int × Int × Nat → Shared → Prop} (hs : s.heap.IsSliceOf sl .none .none (.int (-1) t)) (h : Q (1, -1, 2) s) : wpAny (model prog w) A (Builtin.Slice.sliceApplied (.ref sl) (pure 2)) Q E s := by
  obtain ⟨os, hos, hcs, hds⟩ := id hs
  unfold Builtin.Slice.sliceApplied Builtin.Slice.sliceFields
  refine wpAny_bind (wpAny_bind (wpAny_field hos hds (x := .none) rfl (wpAny_bind (wpAny_field hos hds (x := .none) rfl (wpAny_bind (wpAny_field hos hds (x := .int (-1) t) rfl (wpAny_pure ?_)))))))
  refine wpAny_bind (slicePart_int ?_)
  show wpAny _ _ (if ((-1 : Int) == 0) = true then _ else _) _ _ s
  rw [if_neg (by decide)]
  refine wpAny_bind (slicePart_none (wpAny_bind (slicePart_none (wpAny_bind (wpAny_pure ?_)))))
  exact wpAny_pure h
theorem getItem_rev2 {prog : Program} {w : World} {A : Around} {E : Value → Shared → Prop} {s : Shared} {p sl : Addr} {a b : Value} {t : Tok} {Q : Value → Shared → Prop} (ht : IsTup s.heap p #[a, b]) (hs : s.heap.IsSliceOf sl .none .none (.int (-1) t))
    (h : Q (.ref s.heap.objs.size) { s with heap := s.heap.push { cls := .type "tuple", data := .seq #[b, a] } }) : wpAny (model prog w) A (getItem (.ref p) (.ref sl)) Q E s := by
  have htake : sizeOk (.seq #[b, a]) := by
    show (#[b, a] : Array Value).size ≤ sizeLine
    exact (by decide : 2 ≤ sizeLine)
  obtain ⟨os, hos, hcs, hds⟩ := id hs
  have hTs : s.TypeIs (.ref sl) "slice" := ⟨os, hos, hcs⟩
  unfold getItem
  try with_reducible refine wpAny_holding ?_
  first | refine wpAny_bind (wpAny_pure ?_) | skip
  refine wpAny_bind (wpAny_sequenceKey ht.typeIs (by decide) ?_)
  refine wpAny_bind (wpAny_callSpecial?_slot (name := Str.ofString "__getitem__") ht.typeIs PyProof.Rows.slot_tuple_getitem
    (wpAny_call_entry PyProof.Rows.slot_tuple_getitem ht.typeIs entry_tuple_getitem ?_ (args_tuple_getitem _ _)))
  show wpAny _ _ (Builtin.Tuple.tupleItemsOf (.ref p) >>= _) _ _ s
  refine wpAny_bind (tupleItemsOf_ ht ?_)
  refine wpAny_bind (wpAny_typeOf hTs ?_)
  rw [if_pos (by decide)]
  refine wpAny_bind (rev2_applied hs ?_)
  show wpAny _ _ (if ((1 : Int) == 0 && (-1 : Int) == 1 && (2 : Nat) == 2) = true then _ else _) _ _ s
  rw [if_neg (by decide)]
  first
    | exact wpAny_bind (m := Builtin.Tuple.tupleExact _) (wpAny_newObj_type (wpAny_pure ⟨_, rfl, wpAny_pure h⟩) htake)
    | exact wpAny_bind (m := Builtin.Tuple.tupleExact _) (wpAny_newObj_type (wpAny_bind (wpAny_pure (wpAny_pure ⟨_, rfl, wpAny_pure h⟩))) htake)
    | exact wpAny_bind (wpAny_bind (m := Builtin.Tuple.tupleExact _) (wpAny_newObj_type (wpAny_pure (wpAny_pure ⟨_, rfl, wpAny_pure h⟩)) htake))
    | exact wpAny_bind (wpAny_bind (m := Builtin.Tuple.tupleExact _) (wpAny_newObj_type (wpAny_pure ⟨_, rfl, wpAny_pure h⟩) htake))
def tRevT2 (K : PySem.W.Frag) (te : TE) : TE := fun σ H Q => te σ H fun x H1 => ∃ a u v, x = .ref a ∧ SqT K H1 a [u, v] ∧ ∀ p, H1 p = none → Q (.ref p) (upd H1 p (.tup [v, u]))
theorem pe_revT2 {X : Cx} {e : Expr} {te : TE} {k : Nat} {p1 p2 p3 pos : Pos} (he : PE X e te) : PE X (.Subscript e (.Slice none none (some (.UnaryOp .USub (.Constant (.int 1) k p1) p2)) p3) pos) (tRevT2 X.K te) := by
  refine ⟨fun pins s σ H Q I h => ?_⟩
  refine Subscript_ (thn (he.run pins s σ H _ I h) fun v s1 ⟨x, H1, I1, r1, q1⟩ => ?_)
  obtain ⟨a, y, z, ex, hx, q⟩ := q1
  subst ex
  cases r1
  have hst : PO X (some (.UnaryOp .USub (.Constant (.int 1) k p1) p2)) (tPart (tUn (rU fun i => .int (-i)) (tC (.int 1)))) := po_some (pe_un un_neg pe_int)
  refine wpAny_Slice (thn (po_none.run pins s1 σ H1 (fun o H2 => o = none ∧ H2 = H1) I1 ⟨rfl, rfl⟩) fun vl s2 ⟨l, H2, I2, pl, el, e2⟩ => ?_)
  subst el e2
  refine thn (po_none.run pins s2 σ H2 (fun o H3 => o = none ∧ H3 = H2) I2 ⟨rfl, rfl⟩) fun vu s3 ⟨u, H3, I3, pu, eu, e3⟩ => ?_
  subst eu e3
  refine thn (hst.run pins s3 σ H3 (fun o H4 => o = some (-1) ∧ H4 = H3) I3 ⟨1, rfl, -1, rfl, rfl, rfl⟩) fun vs s4 ⟨o, H4, I4, ps, eo, e4⟩ => ?_
  subst eo e4
  cases pl
  cases pu
  cases ps with
  | int _ tk =>
    have I5 : Inv X pins σ H4 { s4 with heap := s4.heap.push { cls := .type "slice", data := .fields #[.none, .none, .int (-1) tk] } } := I4.kept (t' := s4.toks) fun b ob q => Heap.get?_push_of_some _ q
    obtain ⟨its, r, ht, hz⟩ := I5.tuple hx
    cases r with
    | cons r1 r => cases r with
      | cons r2 r =>
        cases r
        rename_i u1 u2
        show wpAny (model X.prog X.w) X.A (subscriptTail e (.Slice none none (some (.UnaryOp .USub (.Constant (.int 1) k p1) p2)) p3) (.ref a) (.ref s4.heap.objs.size)) (EP X pins σ Q) X.xe { s4 with heap := s4.heap.push { cls := .type "slice", data := .fields #[.none, .none, .int (-1) tk] } }
        refine tail_any (ops := [.ref a, .ref s4.heap.objs.size]) ht.typeIs PyProof.Rows.slot_tuple_getitem.lookup ?_ (by with_unfolding_all rfl)
        refine getItem_rev2 ht (Heap.IsSliceOf.new _ .none .none (.int (-1) tk)) ?_
        refine ⟨.ref _, _, I5.laid (t' := s4.toks) (o := .tup [z, y]) (fun b ob q => Heap.get?_push_of_some _ q) (Nat.le_refl _) ?_, rfl, q _ (I5.hok.fresh (Nat.le_refl _))⟩
        exact ⟨by show 2 ≤ sizeLine; decide, _, .cons r2 (.cons r1 .nil), IsTup.new _ _⟩
end
section
variable [Fam] [Tabz]
def dRevT2 (f : DF) : DF := fun ρ n Q => f ρ n fun r n1 => ∃ a b, r.dat = some (.tuple [a, b]) ∧ Q (.d (.tuple [b, a])) n1
theorem pdRevT2 {X : Cx} {e : Expr} {f : DF} (h : PE X e (tRevT2 X.K (tD f))) : PE X e (tD (dRevT2 f)) := h.imp fun σ H Q ⟨c, A, n, ρ, Q', E, hf, k⟩ => by
  refine ⟨c, A, n, ρ, _, E, hf, fun v r n1 H1 ⟨a, b, ed, hq⟩ f1 o1 => ?_⟩
  have rp := o1.dat E ed
  have E1 := E.fr f1
  cases rp with
  | @tup l xs _ h1 h2 => cases h2 with
    | cons r1 h2 => cases h2 with
      | cons r2 h2 =>
        cases h2
        refine ⟨l, _, _, rfl, SqT.of (msk_some h1).2, fun p np => ?_⟩
        exact k _ _ n1 _ hq (f1.trans (Fr.new E1.g np)) (VOk.mono E f1 (tup_new E1 np (.cons r2 (.cons r1 .nil))))
end

structure Txt (mg : Str → Option Value) : Prop where
  b_len : mg "len" = none
  b_max : mg "max" = none
  b_min : mg "min" = none
  b_range : mg "range" = none
  b_bool : mg "bool" = none
  b_isinstance : mg "isinstance" = none
  b_int : mg "int" = none
  b_all : mg "all" = none
  b_list : mg "list" = none
  b_tuple : mg "tuple" = none
  b_zip : mg "zip" = none
  b_sorted : mg "sorted" = none
  b_sum : mg "sum" = none
  b_abs : mg "abs" = none
  b_enumerate : mg "enumerate" = none
  b_set : mg "set" = none
  mg_BUY : ∃ t, mg "BUY" = some (.str "buy" t)
  mg_SELL : ∃ t, mg "SELL" = some (.str "sell" t)
  mg_RANK : ∃ t, mg "RANK" = some (.str "rank" t)
  mg_SHARE : ∃ t, mg "SHARE" = some (.str "share" t)
  mg_OLD : ∃ t, mg "OLD" = some (.str "old" t)
  mg_NEW : ∃ t, mg "NEW" = some (.str "new" t)
  mg_BOTH : ∃ t, mg "BOTH" = some (.str "both" t)
  mg_LESS : ∃ t, mg "LESS" = some (.str "less" t)
section
variable [Fam] [Tabz] {P : Program} {w : World} {K : PySem.W.Frag} {mg : Str → Option Value} {base : Heap}
local macro_rules | `(tactic| walk_at "d") => `(tactic| first | refine Or.inl ⟨_, rfl, ?_⟩ | refine ⟨Nat.le_of_ble_eq_true rfl, ?_⟩ | refine ⟨_, rfl, ?_⟩)
/-! ### the plain rule: data -/
def datP : Option Int → PyData
  | none => .none
  | some i => .int i
structure Row where
  num : Int
  who : Str
  side : Str
  price : Int
  part : Option Int
  left : Int
  seen : Int
  rank : Int
def Row.dat (r : Row) : PyData := .tuple [.int r.num, .str r.who, .str r.side, .int r.price, datP r.part, .int r.left, .int r.seen, .int r.rank]
structure Com where
  num : Int
  who : Str
  side : Str
  price : Option Int
  left : Int
  guard : Str
def Com.dat (c : Com) : PyData := .tuple [.int c.num, .str c.who, .str c.side, datP c.price, .int c.left, .str c.guard]
inductive Evt where
  | trade (b s p a : Int) | shown (m n : Int) | off (m a : Int) | less (r c a : Int)
def Evt.dat : Evt → PyData
  | .trade b s p a => .tuple [.str "trade", .int b, .int s, .int p, .int a]
  | .shown m n => .tuple [.str "shown", .int m, .int n]
  | .off m a => .tuple [.str "off", .int m, .int a, .str "guard"]
  | .less r c a => .tuple [.str "less", .int r, .int c, .int a]
def dRows (rs : List Row) : PyData := .list (rs.map Row.dat)
def dEvts (es : List Evt) : PyData := .list (es.map Evt.dat)
def letsM (p : Option Int) (side : Str) (o : Int) : Bool := match p with | some p => if side = "buy" then decide (o ≤ p) else decide (p ≤ o) | _ => true
def mLets : DM := fun rs n Q => ∃ (p : Option Int) (s : Str) (o : Int), rs = [.d (datP p), .d (.str s), .d (.int o)] ∧ Q (.d (.bool (letsM p s o))) n
theorem plain1 {a : PyData} : plainR [.d a] ∧ [DV.d a].length = 1 := plainOf_R (ds := [a]) rfl
theorem plain2 {a b : PyData} : plainR [.d a, .d b] ∧ [DV.d a, .d b].length = 2 := plainOf_R (ds := [a, b]) rfl
theorem plain3 {a b c : PyData} : plainR [.d a, .d b, .d c] ∧ [DV.d a, .d b, .d c].length = 3 := plainOf_R (ds := [a, b, c]) rfl
theorem plain4 {a b c d : PyData} : plainR [.d a, .d b, .d c, .d d] ∧ [DV.d a, .d b, .d c, .d d].length = 4 := plainOf_R (ds := [a, b, c, d]) rfl
theorem L_lets : ∀ rs n Q, mLets rs n Q → plainR rs ∧ rs.length = 3 := by
  rintro rs n Q ⟨p, s, o, rfl, h⟩
  exact plain3
abbrev s_lets : Stmt := topS 10
theorem sc_lets : FnScope ["price", "side", "other"] ["price", "side", "other"] (defScope s_lets) := ⟨rfl, rfl, rfl, by decide +kernel, rfl, by decide +kernel, by decide +kernel⟩
theorem ok_lets {f : Addr} {fd : FuncData} (F : Fun K "lets" "lets" s_lets f fd) (T : Txt mg) : FnOk P w K mg base CX0 1 f fd ["price", "side", "other"] (spD mLets) := by
  apply okD F sc_lets L_lets
  case body =>
    intro cdv A outer s H E hr
    obtain ⟨_, mG_BUY⟩ := T.mg_BUY
    exact (psCons (psIf (ptCmp r2IsN op_isN (pdV (pv 0)) (pdC pe_non) (nomark _)) (psOne (psRet (pdC pe_bl))) psNil)
          (psCons (psIf (ptCmp r2Eq op_eq (pdV (pv 1)) (pdC (pe_glob (v := .str "buy") (by rfl) mG_BUY ⟨_, rfl⟩)) (nomark _)) (psOne (psRet (pdCmp r2Ge op_ge (pdV (pv 0)) (pdV (pv 2)) (nomark _)))) psNil)
          (psOne (psRet (pdCmp r2Le op_le (pdV (pv 0)) (pdV (pv 2)) (nomark _))))))
  case data =>
    rintro rs n Q ⟨p, s, o, rfl, h⟩
    cases p with
    | none =>
      simp only [dSeq, dIfS, dTest, dBin, dUn, dV, dC, dRet, dNext, dSet, dAug, dIf, dAnd, dOr, dNot, dAndV, dOrV, dNotV, dLst, dTup, dNil, dCons, dB, dCall, dPar, dPar3, dAsg, dExp, dPk, datsOf, DV.dat, DV.cold, List.cons_append, List.nil_append, List.append_nil, List.length_cons, List.length_nil, List.replicate_succ, List.replicate_zero, List.replicate, Nat.reduceAdd, Nat.reduceSub, Nat.reduceLT, Nat.reduceLeDiff, List.getElem?_cons_zero, List.getElem?_cons_succ, List.set_cons_zero, List.set_cons_succ, Option.some.injEq, DV.d.injEq, DV.own.injEq, PyData.bool.injEq, PyData.int.injEq, PyData.str.injEq, PyData.list.injEq, PyData.tuple.injEq, exists_eq_left, exists_eq_left', exists_eq_right, exists_eq_right', true_and, and_true, or_false, false_or, reduceCtorEq, exists_false, false_and, and_false, opI, opIc, opNeg, opEq, opNe, sEq, opIsN, isN, Option.map_some, Option.map, decide_true, decide_false, decide_eq_true_eq, if_true, if_false, ite_true, ite_false, Bool.false_eq_true, Bool.not_true, Bool.not_false, if_pos, gTp, gMore, gN, gNone, opIxT, opIxL, atI, ixN, b2I, bAbs, bLen, bSum, intsOf, bList, datP]
      exact h
    | some p =>
      simp only [dSeq, dIfS, dTest, dBin, dUn, dV, dC, dRet, dNext, dSet, dAug, dIf, dAnd, dOr, dNot, dAndV, dOrV, dNotV, dLst, dTup, dNil, dCons, dB, dCall, dPar, dPar3, dAsg, dExp, dPk, datsOf, DV.dat, DV.cold, List.cons_append, List.nil_append, List.append_nil, List.length_cons, List.length_nil, List.replicate_succ, List.replicate_zero, List.replicate, Nat.reduceAdd, Nat.reduceSub, Nat.reduceLT, Nat.reduceLeDiff, List.getElem?_cons_zero, List.getElem?_cons_succ, List.set_cons_zero, List.set_cons_succ, Option.some.injEq, DV.d.injEq, DV.own.injEq, PyData.bool.injEq, PyData.int.injEq, PyData.str.injEq, PyData.list.injEq, PyData.tuple.injEq, exists_eq_left, exists_eq_left', exists_eq_right, exists_eq_right', true_and, and_true, or_false, false_or, reduceCtorEq, exists_false, false_and, and_false, opI, opIc, opNeg, opEq, opNe, sEq, opIsN, isN, Option.map_some, Option.map, decide_true, decide_false, decide_eq_true_eq, if_true, if_false, ite_true, ite_false, Bool.false_eq_true, Bool.not_true, Bool.not_false, if_pos, gTp, gMore, gN, gNone, opIxT, opIxL, atI, ixN, b2I, bAbs, bLen, bSum, intsOf, bList, datP]
      simp only [letsM] at h
      split <;> simp_all
def agM (s : Str) : Str := if s = "buy" then "sell" else "buy"
def mAg : DM := fun rs n Q => ∃ s : Str, rs = [.d (.str s)] ∧ Q (.d (.str (agM s))) n
theorem L_against : ∀ rs n Q, mAg rs n Q → plainR rs ∧ rs.length = 1 := by
  rintro rs n Q ⟨s, rfl, h⟩
  exact plain1
abbrev s_against : Stmt := topS 13
theorem sc_against : FnScope ["side"] ["side"] (defScope s_against) := ⟨rfl, rfl, rfl, by decide +kernel, rfl, by decide +kernel, by decide +kernel⟩
theorem ok_against {f : Addr} {fd : FuncData} (F : Fun K "against" "against" s_against f fd) (T : Txt mg) : FnOk P w K mg base CX0 1 f fd ["side"] (spD mAg) := by
  apply okD F sc_against L_against
  case body =>
    intro cdv A outer s H E hr
    obtain ⟨_, mG_BUY⟩ := T.mg_BUY
    obtain ⟨_, mG_SELL⟩ := T.mg_SELL
    exact (psOne (psRet (pdIf (ptCmp r2Eq op_eq (pdV (pv 0)) (pdC (pe_glob (v := .str "buy") (by rfl) mG_BUY ⟨_, rfl⟩)) (nomark _)) (pdC (pe_glob (v := .str "sell") (by rfl) mG_SELL ⟨_, rfl⟩)) (pdC (pe_glob (v := .str "buy") (by rfl) mG_BUY ⟨_, rfl⟩)))))
  case data =>
    rintro rs n Q ⟨s, rfl, h⟩
    simp only [dSeq, dIfS, dTest, dBin, dUn, dV, dC, dRet, dNext, dSet, dAug, dIf, dAnd, dOr, dNot, dAndV, dOrV, dNotV, dLst, dTup, dNil, dCons, dB, dCall, dPar, dPar3, dAsg, dExp, dPk, datsOf, DV.dat, DV.cold, List.cons_append, List.nil_append, List.append_nil, List.length_cons, List.length_nil, List.replicate_succ, List.replicate_zero, List.replicate, Nat.reduceAdd, Nat.reduceSub, Nat.reduceLT, Nat.reduceLeDiff, List.getElem?_cons_zero, List.getElem?_cons_succ, List.set_cons_zero, List.set_cons_succ, Option.some.injEq, DV.d.injEq, DV.own.injEq, PyData.bool.injEq, PyData.int.injEq, PyData.str.injEq, PyData.list.injEq, PyData.tuple.injEq, exists_eq_left, exists_eq_left', exists_eq_right, exists_eq_right', true_and, and_true, or_false, false_or, reduceCtorEq, exists_false, false_and, and_false, opI, opIc, opNeg, opEq, opNe, sEq, opIsN, isN, Option.map_some, Option.map, decide_true, decide_false, decide_eq_true_eq, if_true, if_false, ite_true, ite_false, Bool.false_eq_true, Bool.not_true, Bool.not_false, if_pos, gTp, gMore, gN, gNone, opIxT, opIxL, atI, ixN, b2I, bAbs, bLen, bSum, intsOf, bList]
    simp only [agM] at h
    split <;> simp_all
def farM (p : Int) (band : Option Int) (anchor : Int) : Bool := match band with | none => false | some b => decide (b < (if p - anchor < 0 then -(p - anchor) else p - anchor))
def mFar : DM := fun rs n Q => ∃ (p : Int) (band : Option Int) (anchor : PyData) (a : Int), rs = [.d (.int p), .d (datP band), .d anchor] ∧ (band.isSome = true → anchor = .int a) ∧ Q (.d (.bool (farM p band a))) n
theorem L_too_far : ∀ rs n Q, mFar rs n Q → plainR rs ∧ rs.length = 3 := by
  rintro rs n Q ⟨p, b, x, a, rfl, h⟩
  exact plain3
abbrev s_too_far : Stmt := topS 14
theorem sc_too_far : FnScope ["price", "band", "anchor"] ["price", "band", "anchor"] (defScope s_too_far) := ⟨rfl, rfl, rfl, by decide +kernel, rfl, by decide +kernel, by decide +kernel⟩
theorem ok_far {f : Addr} {fd : FuncData} (F : Fun K "too_far" "too_far" s_too_far f fd) (T : Txt mg) : FnOk P w K mg base CX0 1 f fd ["price", "band", "anchor"] (spD mFar) := by
  apply okD F sc_too_far L_too_far
  case body =>
    intro cdv A outer s H E hr
    exact (psOne (psRet (pdAnd (pdCmp r2NotN op_notN (pdV (pv 1)) (pdC pe_non) (nomark _)) (pe_one (pdCmp r2Gt op_gt (pdB rsAbs call_abs (by rfl) T.b_abs (by decide +kernel) (paCons (pdOp r2Sub op_sub (pdV (pv 0)) (pdV (pv 2))) paNil)) (pdV (pv 1)) (nomark _))))))
  case data =>
    rintro rs n Q ⟨p, b, x, a, rfl, hx, h⟩
    cases b with
    | none =>
      simp only [dSeq, dIfS, dTest, dBin, dUn, dV, dC, dRet, dNext, dSet, dAug, dIf, dAnd, dOr, dNot, dAndV, dOrV, dNotV, dLst, dTup, dNil, dCons, dB, dCall, dPar, dPar3, dAsg, dExp, dPk, datsOf, DV.dat, DV.cold, List.cons_append, List.nil_append, List.append_nil, List.length_cons, List.length_nil, List.replicate_succ, List.replicate_zero, List.replicate, Nat.reduceAdd, Nat.reduceSub, Nat.reduceLT, Nat.reduceLeDiff, List.getElem?_cons_zero, List.getElem?_cons_succ, List.set_cons_zero, List.set_cons_succ, Option.some.injEq, DV.d.injEq, DV.own.injEq, PyData.bool.injEq, PyData.int.injEq, PyData.str.injEq, PyData.list.injEq, PyData.tuple.injEq, exists_eq_left, exists_eq_left', exists_eq_right, exists_eq_right', true_and, and_true, or_false, false_or, reduceCtorEq, exists_false, false_and, and_false, opI, opIc, opNeg, opEq, opNe, sEq, opIsN, isN, Option.map_some, Option.map, decide_true, decide_false, decide_eq_true_eq, if_true, if_false, ite_true, ite_false, Bool.false_eq_true, Bool.not_true, Bool.not_false, if_pos, gTp, gMore, gN, gNone, opIxT, opIxL, atI, ixN, b2I, bAbs, bLen, bSum, intsOf, bList, datP]
      exact h
    | some b =>
      have := hx rfl
      subst this
      simp only [dSeq, dIfS, dTest, dBin, dUn, dV, dC, dRet, dNext, dSet, dAug, dIf, dAnd, dOr, dNot, dAndV, dOrV, dNotV, dLst, dTup, dNil, dCons, dB, dCall, dPar, dPar3, dAsg, dExp, dPk, datsOf, DV.dat, DV.cold, List.cons_append, List.nil_append, List.append_nil, List.length_cons, List.length_nil, List.replicate_succ, List.replicate_zero, List.replicate, Nat.reduceAdd, Nat.reduceSub, Nat.reduceLT, Nat.reduceLeDiff, List.getElem?_cons_zero, List.getElem?_cons_succ, List.set_cons_zero, List.set_cons_succ, Option.some.injEq, DV.d.injEq, DV.own.injEq, PyData.bool.injEq, PyData.int.injEq, PyData.str.injEq, PyData.list.injEq, PyData.tuple.injEq, exists_eq_left, exists_eq_left', exists_eq_right, exists_eq_right', true_and, and_true, or_false, false_or, reduceCtorEq, exists_false, false_and, and_false, opI, opIc, opNeg, opEq, opNe, sEq, opIsN, isN, Option.map_some, Option.map, decide_true, decide_false, decide_eq_true_eq, if_true, if_false, ite_true, ite_false, Bool.false_eq_true, Bool.not_true, Bool.not_false, if_pos, gTp, gMore, gN, gNone, opIxT, opIxL, atI, ixN, b2I, bAbs, bLen, bSum, intsOf, bList, datP]
      exact h
def partM (shown : Option Int) (left : Int) : Int := match shown with | none => left | some s => if left < s then left else s
def mPart : DM := fun rs n Q => ∃ (s : Option Int) (l : Int), rs = [.d (datP s), .d (.int l)] ∧ Q (.d (.int (partM s l))) n
theorem L_part_seen : ∀ rs n Q, mPart rs n Q → plainR rs ∧ rs.length = 2 := by
  rintro rs n Q ⟨s, l, rfl, h⟩
  exact plain2
abbrev s_part_seen : Stmt := topS 23
theorem sc_part_seen : FnScope ["shown", "left"] ["shown", "left"] (defScope s_part_seen) := ⟨rfl, rfl, rfl, by decide +kernel, rfl, by decide +kernel, by decide +kernel⟩
theorem ok_part {f : Addr} {fd : FuncData} (F : Fun K "part_seen" "part_seen" s_part_seen f fd) (T : Txt mg) : FnOk P w K mg base CX0 1 f fd ["shown", "left"] (spD mPart) := by
  apply okD F sc_part_seen L_part_seen
  case body =>
    intro cdv A outer s H E hr
    exact (psOne (psRet (pdIf (ptCmp r2IsN op_isN (pdV (pv 0)) (pdC pe_non) (nomark _)) (pdV (pv 1)) (pdB rs2I (call_min2 rfl) (by rfl) T.b_min (by decide +kernel) (paCons (pdV (pv 0)) (paCons (pdV (pv 1)) paNil))))))
  case data =>
    rintro rs n Q ⟨s, l, rfl, h⟩
    cases s <;> simp only [dSeq, dIfS, dTest, dBin, dUn, dV, dC, dRet, dNext, dSet, dAug, dIf, dAnd, dOr, dNot, dAndV, dOrV, dNotV, dLst, dTup, dNil, dCons, dB, dCall, dPar, dPar3, dAsg, dExp, dPk, datsOf, DV.dat, DV.cold, List.cons_append, List.nil_append, List.append_nil, List.length_cons, List.length_nil, List.replicate_succ, List.replicate_zero, List.replicate, Nat.reduceAdd, Nat.reduceSub, Nat.reduceLT, Nat.reduceLeDiff, List.getElem?_cons_zero, List.getElem?_cons_succ, List.set_cons_zero, List.set_cons_succ, Option.some.injEq, DV.d.injEq, DV.own.injEq, PyData.bool.injEq, PyData.int.injEq, PyData.str.injEq, PyData.list.injEq, PyData.tuple.injEq, exists_eq_left, exists_eq_left', exists_eq_right, exists_eq_right', true_and, and_true, or_false, false_or, reduceCtorEq, exists_false, false_and, and_false, opI, opIc, opNeg, opEq, opNe, sEq, opIsN, isN, Option.map_some, Option.map, decide_true, decide_false, decide_eq_true_eq, if_true, if_false, ite_true, ite_false, Bool.false_eq_true, Bool.not_true, Bool.not_false, if_pos, gTp, gMore, gN, gNone, opIxT, opIxL, atI, ixN, b2I, bAbs, bLen, bSum, intsOf, bList, datP] <;> exact h
def hidM (r : Row) (a : Int) : Row := { r with left := r.left - a, seen := if r.left - a < r.seen then r.left - a else r.seen }
def seenM (r : Row) (a : Int) : Row := { r with left := r.left - a, seen := if r.seen - a > 0 then r.seen - a else 0 }
def mHid : DM := fun rs n Q => ∃ (r : Row) (a : Int), rs = [.d r.dat, .d (.int a)] ∧ Q (.d (hidM r a).dat) n
def mSeen : DM := fun rs n Q => ∃ (r : Row) (a : Int), rs = [.d r.dat, .d (.int a)] ∧ Q (.d (seenM r a).dat) n
theorem L_hidden_first : ∀ rs n Q, mHid rs n Q → plainR rs ∧ rs.length = 2 := by
  rintro rs n Q ⟨s, l, rfl, h⟩
  exact plain2
theorem L_seen_first : ∀ rs n Q, mSeen rs n Q → plainR rs ∧ rs.length = 2 := by
  rintro rs n Q ⟨s, l, rfl, h⟩
  exact plain2
abbrev s_hidden_first : Stmt := topS 21
theorem sc_hidden_first : FnScope ["row", "amount", "number", "owner", "side", "price", "shown", "left", "seen", "rank"] ["row", "amount"] (defScope s_hidden_first) := ⟨rfl, rfl, rfl, by decide +kernel, rfl, by decide +kernel, by decide +kernel⟩
theorem ok_hid {f : Addr} {fd : FuncData} (F : Fun K "hidden_first" "hidden_first" s_hidden_first f fd) (T : Txt mg) : FnOk P w K mg base CX0 1 f fd ["row", "amount"] (spD mHid) := by
  apply okD F sc_hidden_first L_hidden_first
  case body =>
    intro cdv A outer s H E hr
    exact (psCons (psAsg (pdV (pv 0)) (pgTup (n := 8) rfl (pgCons (pgN (pg_name (i := 2) sc_hidden_first.nd rfl (Or.inl rfl))) (pgCons (pgN (pg_name (i := 3) sc_hidden_first.nd rfl (Or.inl rfl))) (pgCons (pgN (pg_name (i := 4) sc_hidden_first.nd rfl (Or.inl rfl))) (pgCons (pgN (pg_name (i := 5) sc_hidden_first.nd rfl (Or.inl rfl))) (pgCons (pgN (pg_name (i := 6) sc_hidden_first.nd rfl (Or.inl rfl))) (pgCons (pgN (pg_name (i := 7) sc_hidden_first.nd rfl (Or.inl rfl))) (pgCons (pgN (pg_name (i := 8) sc_hidden_first.nd rfl (Or.inl rfl))) (pgCons (pgN (pg_name (i := 9) sc_hidden_first.nd rfl (Or.inl rfl))) pgNil))))))))))
          (psOne (psRet (pdTup (paCons (pdV (pv 2)) (paCons (pdV (pv 3)) (paCons (pdV (pv 4)) (paCons (pdV (pv 5)) (paCons (pdV (pv 6)) (paCons (pdOp r2Sub op_sub (pdV (pv 7)) (pdV (pv 1))) (paCons (pdB rs2I (call_min2 rfl) (by rfl) T.b_min (by decide +kernel) (paCons (pdV (pv 8)) (paCons (pdOp r2Sub op_sub (pdV (pv 7)) (pdV (pv 1))) paNil))) (paCons (pdV (pv 9)) paNil))))))))))))
  case data =>
    rintro rs n Q ⟨⟨num, who, side, price, part, left, seen, rank⟩, a, rfl, h⟩
    repeat walk_at "d"
    exact h
abbrev s_seen_first : Stmt := topS 20
theorem sc_seen_first : FnScope ["row", "amount", "number", "owner", "side", "price", "shown", "left", "seen", "rank"] ["row", "amount"] (defScope s_seen_first) := ⟨rfl, rfl, rfl, by decide +kernel, rfl, by decide +kernel, by decide +kernel⟩
theorem ok_seen {f : Addr} {fd : FuncData} (F : Fun K "seen_first" "seen_first" s_seen_first f fd) (T : Txt mg) : FnOk P w K mg base CX0 1 f fd ["row", "amount"] (spD mSeen) := by
  apply okD F sc_seen_first L_seen_first
  case body =>
    intro cdv A outer s H E hr
    exact (psCons (psAsg (pdV (pv 0)) (pgTup (n := 8) rfl (pgCons (pgN (pg_name (i := 2) sc_seen_first.nd rfl (Or.inl rfl))) (pgCons (pgN (pg_name (i := 3) sc_seen_first.nd rfl (Or.inl rfl))) (pgCons (pgN (pg_name (i := 4) sc_seen_first.nd rfl (Or.inl rfl))) (pgCons (pgN (pg_name (i := 5) sc_seen_first.nd rfl (Or.inl rfl))) (pgCons (pgN (pg_name (i := 6) sc_seen_first.nd rfl (Or.inl rfl))) (pgCons (pgN (pg_name (i := 7) sc_seen_first.nd rfl (Or.inl rfl))) (pgCons (pgN (pg_name (i := 8) sc_seen_first.nd rfl (Or.inl rfl))) (pgCons (pgN (pg_name (i := 9) sc_seen_first.nd rfl (Or.inl rfl))) pgNil))))))))))
          (psOne (psRet (pdTup (paCons (pdV (pv 2)) (paCons (pdV (pv 3)) (paCons (pdV (pv 4)) (paCons (pdV (pv 5)) (paCons (pdV (pv 6)) (paCons (pdOp r2Sub op_sub (pdV (pv 7)) (pdV (pv 1))) (paCons (pdB rs2I (call_max2 rfl) (by rfl) T.b_max (by decide +kernel) (paCons (pdC pe_int) (paCons (pdOp r2Sub op_sub (pdV (pv 8)) (pdV (pv 1))) paNil))) (paCons (pdV (pv 9)) paNil))))))))))))
  case data =>
    rintro rs n Q ⟨⟨num, who, side, price, part, left, seen, rank⟩, a, rfl, h⟩
    repeat walk_at "d"
    exact h

end
section
variable [Fam] [Tabz] {P : Program} {w : World} {K : PySem.W.Frag} {mg : Str → Option Value} {base : Heap}
local macro_rules | `(tactic| walk_at "d") => `(tactic| first | refine Or.inl ⟨_, rfl, ?_⟩ | refine ⟨Nat.le_of_ble_eq_true rfl, ?_⟩ | refine ⟨⟨_, rfl⟩, ?_⟩ | refine ⟨_, rfl, ?_⟩)
/-! ### shown_anew -/
def anewS (a : List Evt × List Row × Int) (r : Row) : List Evt × List Row × Int :=
  if r.seen > 0 then (a.1, a.2.1 ++ [r], a.2.2)
  else if r.left > 0 then (a.1 ++ [.shown r.num (partM r.part r.left)], a.2.1 ++ [{ r with seen := partM r.part r.left, rank := a.2.2 }], a.2.2 + 1) else a
def anewM (rs : List Row) (k : Int) : List Evt × List Row × Int := rs.foldl anewS ([], [], k)
theorem anew_len (rs : List Row) : ∀ a, (rs.foldl anewS a).1.length ≤ a.1.length + rs.length ∧ (rs.foldl anewS a).2.1.length ≤ a.2.1.length + rs.length := by
  induction rs with
  | nil => intro a; exact ⟨Nat.le_refl _, Nat.le_refl _⟩
  | cons r rs ih =>
    intro a
    obtain ⟨h1, h2⟩ := ih (anewS a r)
    have h3 : (anewS a r).1.length ≤ a.1.length + 1 ∧ (anewS a r).2.1.length ≤ a.2.1.length + 1 := by
      unfold anewS
      split
      · simp
      · split <;> simp
    simp only [List.foldl_cons, List.length_cons]
    omega
theorem dat_at {rs : List Row} {i : Nat} {d : PyData} (h : (rs.map Row.dat)[i]? = some d) : ∃ r, rs[i]? = some r ∧ d = r.dat := by
  rw [List.getElem?_map] at h
  cases e : rs[i]? with
  | none => rw [e] at h; cases h
  | some r =>
    rw [e] at h
    cases h
    exact ⟨r, rfl, rfl⟩
theorem take_fold {α β : Type} (f : β → α → β) (b : β) {xs : List α} {i : Nat} {x : α} (h : xs[i]? = some x) : (xs.take (i + 1)).foldl f b = f ((xs.take i).foldl f b) x := by
  rw [List.take_succ, h, List.foldl_append]
  rfl
def mAnew : DM := fun rs n Q => ∃ (rows : List Row) (k : Int), rs = [.d (dRows rows), .d (.int k)] ∧ rows.length ≤ 50000 ∧ Q (.d (.tuple [dEvts (anewM rows k).1, dRows (anewM rows k).2.1, .int (anewM rows k).2.2])) n
theorem L_shown_anew : ∀ rs n Q, mAnew rs n Q → plainR rs ∧ rs.length = 2 := by
  rintro rs n Q ⟨s, l, rfl, h⟩
  exact plain2
abbrev s_shown_anew : Stmt := topS 22
theorem sc_shown_anew : FnScope ["rows", "rank", "events", "standing", "row", "number", "owner", "side", "price", "shown", "left", "seen", "_"] ["rows", "rank"] (defScope s_shown_anew) := ⟨rfl, rfl, rfl, by decide +kernel, rfl, by decide +kernel, by decide +kernel⟩
theorem ok_anew {f : Addr} {fd : FuncData} (F : Fun K "shown_anew" "shown_anew" s_shown_anew f fd) (T : Txt mg) (c_part_seen : Cal P w K mg base 1 "part_seen" ["shown", "left"] (spD mPart)) : FnOk P w K mg base CX0 2 f fd ["rows", "rank"] (spD mAnew) := by
  apply okD F sc_shown_anew L_shown_anew
  case body =>
    intro cdv A outer s H E hr
    obtain ⟨f_part_seen, fd_part_seen, G_part_seen, m_part_seen, k_part_seen, b_part_seen⟩ := c_part_seen
    exact (psCons (psSet (i := 2) sc_shown_anew.nd rfl (Or.inl rfl) (pdLst paNil))
          (psCons (psSet (i := 3) sc_shown_anew.nd rfl (Or.inl rfl) (pdLst paNil))
          (psCons (psFor PassesOwn.never rfl (piList (pdV (pv 0))) (pgN (pg_name (i := 4) sc_shown_anew.nd rfl (Or.inl rfl)))
           (psCons (psAsg (pdV (pv 4)) (pgTup (n := 8) rfl (pgCons (pgN (pg_name (i := 5) sc_shown_anew.nd rfl (Or.inl rfl))) (pgCons (pgN (pg_name (i := 6) sc_shown_anew.nd rfl (Or.inl rfl))) (pgCons (pgN (pg_name (i := 7) sc_shown_anew.nd rfl (Or.inl rfl))) (pgCons (pgN (pg_name (i := 8) sc_shown_anew.nd rfl (Or.inl rfl))) (pgCons (pgN (pg_name (i := 9) sc_shown_anew.nd rfl (Or.inl rfl))) (pgCons (pgN (pg_name (i := 10) sc_shown_anew.nd rfl (Or.inl rfl))) (pgCons (pgN (pg_name (i := 11) sc_shown_anew.nd rfl (Or.inl rfl))) (pgCons (pgN (pg_name (i := 12) sc_shown_anew.nd rfl (Or.inl rfl))) pgNil))))))))))
            (psOne (psIf (ptCmp r2Gt op_gt (pdV (pv 11)) (pdC pe_int) (nomark _)) (psOne (psApp (by rfl) (pe_bm PySem.F.plainAttrs_list PySem.F.slot_list_append PySem.F.type_list_append mt_append (pv 3) (pa_cons (pdV (pv 4)) pa_nil)))) (psOne (psIf (ptCmp r2Gt op_gt (pdV (pv 10)) (pdC pe_int) (nomark _)) (psCons (psSet (i := 11) sc_shown_anew.nd rfl (Or.inl rfl) (pdCall (fun _ _ _ q => (L_part_seen _ _ _ q).1) G_part_seen (hr.mono (by decide)) (by rfl) m_part_seen k_part_seen b_part_seen pass0 (paCons (pdV (pv 9)) (paCons (pdV (pv 10)) paNil))))
                (psCons (psApp (by rfl) (pe_bm PySem.F.plainAttrs_list PySem.F.slot_list_append PySem.F.type_list_append mt_append (pv 3) (pa_cons (pdTup (paCons (pdV (pv 5)) (paCons (pdV (pv 6)) (paCons (pdV (pv 7)) (paCons (pdV (pv 8)) (paCons (pdV (pv 9)) (paCons (pdV (pv 10)) (paCons (pdV (pv 11)) (paCons (pdV (pv 1)) paNil))))))))) pa_nil)))
                (psCons (psApp (by rfl) (pe_bm PySem.F.plainAttrs_list PySem.F.slot_list_append PySem.F.type_list_append mt_append (pv 2) (pa_cons (pdTup (paCons (pdC pe_str) (paCons (pdV (pv 5)) (paCons (pdV (pv 11)) paNil)))) pa_nil)))
                (psOne (psAug (i := 1) sc_shown_anew.nd rfl (Or.inl rfl) ip_add (pdC pe_int)))))) psNil))))))
          (psFrz 2 (psFrz 3 (psOne (psRet (pdTup (paCons (pdV (pv 2)) (paCons (pdV (pv 3)) (paCons (pdV (pv 1)) paNil)))))))))))
  case data =>
    rintro rs n Q ⟨rows, k, rfl, hl, h⟩
    repeat walk_at "d"
    refine ⟨fun i ρ m => m = n ∧ ∃ j4 j5 j6 j7 j8 j9 j10 j11 j12 : DV, ρ = [.d (dRows rows), .d (.int ((rows.take i).foldl anewS ([], [], k)).2.2), .own (((rows.take i).foldl anewS ([], [], k)).1.map Evt.dat), .own (((rows.take i).foldl anewS ([], [], k)).2.1.map Row.dat), j4, j5, j6, j7, j8, j9, j10, j11, j12], ⟨rfl, _, _, _, _, _, _, _, _, _, rfl⟩, ?_, ?_⟩
    · rintro i d ρ m hd ⟨rfl, j4, j5, j6, j7, j8, j9, j10, j11, j12, rfl⟩
      obtain ⟨r, hr, rfl⟩ := dat_at hd
      have e := take_fold anewS ([], [], k) hr
      have hi : i < rows.length := (List.getElem?_eq_some_iff.mp hr).1
      have hb := anew_len (rows.take i) ([], [], k)
      rw [List.length_take_of_le (Nat.le_of_lt hi)] at hb
      simp only [List.length_nil] at hb
      generalize (rows.take i).foldl anewS ([], [], k) = a at e hb ⊢
      repeat walk_at "d"
      refine ite2 (fun c => ?_) (fun c => ?_)
      · have c : 0 < r.seen := of_decide_eq_true c
        repeat walk_at "d"
        refine ⟨by rw [List.length_map]; omega, ?_⟩
        dsimp only
        rw [e]
        unfold anewS
        rw [if_pos c, List.map_append]
        exact ⟨rfl, _, _, _, _, _, _, _, _, _, rfl⟩
      · have c : ¬ 0 < r.seen := fun z => c (decide_eq_true z)
        repeat walk_at "d"
        refine ite2 (fun c2 => ?_) (fun c2 => ?_)
        · have c2 : 0 < r.left := of_decide_eq_true c2
          repeat walk_at "d"
          refine ⟨_, _, rfl, ?_⟩
          repeat walk_at "d"
          refine ⟨by rw [List.length_map]; omega, ?_⟩
          repeat walk_at "d"
          refine ⟨by rw [List.length_map]; omega, ?_⟩
          repeat walk_at "d"
          dsimp only
          rw [e]
          unfold anewS
          rw [if_neg c, if_pos c2, List.map_append, List.map_append]
          exact ⟨rfl, _, _, _, _, _, _, _, _, _, rfl⟩
        · have c2 : ¬ 0 < r.left := fun z => c2 (decide_eq_true z)
          dsimp only
          rw [e]
          unfold anewS
          rw [if_neg c, if_neg c2]
          exact ⟨rfl, _, _, _, _, _, _, _, _, _, rfl⟩
    · rintro ρ m ⟨rfl, j4, j5, j6, j7, j8, j9, j10, j11, j12, rfl⟩
      rw [List.length_map, List.take_length]
      repeat walk_at "d"
      exact h

end
section
variable [Fam] [Tabz] {P : Program} {w : World} {K : PySem.W.Frag} {mg : Str → Option Value} {base : Heap}
local macro_rules | `(tactic| walk_at "d") => `(tactic| first | refine Or.inl ⟨_, rfl, ?_⟩ | refine ⟨Nat.le_of_ble_eq_true rfl, ?_⟩ | refine ⟨⟨_, rfl⟩, ?_⟩ | refine ⟨_, rfl, ?_⟩)
/-! ### shares -/
def sharesM (left : Int) (seen : List Int) : List Int :=
  if seen.sum ≤ left then seen else
    (seen.map fun p => left * p / seen.sum).mapIdx fun i p => if (i : Int) < left - (seen.map fun p => left * p / seen.sum).sum then p + 1 else p
def dInts (ns : List Int) : PyData := .list (ns.map PyData.int)
theorem enumD_at {ds : List PyData} {i : Nat} {d : PyData} (h : (enumD ds)[i]? = some d) : ∃ y, ds[i]? = some y ∧ d = .tuple [.int (i : Nat), y] := by
  have hi : i < ds.length := by
    have := (List.getElem?_eq_some_iff.mp h).1
    rwa [enumD_len] at this
  unfold enumD at h
  rw [List.getElem?_map, List.getElem?_range hi] at h
  cases h
  refine ⟨ds[i], List.getElem?_eq_getElem hi, ?_⟩
  show PyData.tuple [.int (i : Nat), ds.getD i .none] = _
  rw [show ds.getD i .none = ds[i] by rw [List.getD_eq_getElem?_getD, List.getElem?_eq_getElem hi]; rfl]
theorem intsOf_map : ∀ ns : List Int, intsOf (ns.map PyData.int) = some ns
  | [] => rfl
  | n :: ns => by
    show (intsOf (ns.map PyData.int)).map (n :: ·) = _
    rw [intsOf_map ns]
    rfl
theorem sum_le_of {ns : List Int} {b : Int} (h : ∀ x ∈ ns, 0 ≤ x ∧ x < b) : 0 ≤ ns.sum ∧ ns.sum ≤ ns.length * b := by
  induction ns with
  | nil => simp
  | cons x xs ih =>
    have h1 := h x List.mem_cons_self
    have h2 := ih fun y hy => h y (List.mem_cons_of_mem _ hy)
    simp only [List.sum_cons, List.length_cons]
    have e : ((xs.length + 1 : Nat) : Int) * b = xs.length * b + b := by
      rw [Int.natCast_add, Int.add_mul]
      simp
    omega
theorem log_small {i : Int} {k : Nat} (h0 : 0 ≤ i) (h : i < 2 ^ k) : i.natAbs.log2 < k ∨ i = 0 := by
  by_cases z : i = 0
  · exact .inr z
  · refine .inl ((Nat.log2_lt (by omega)).mpr ?_)
    have e : ((2 ^ k : Nat) : Int) = 2 ^ k := by push_cast; rfl
    omega
theorem log_lt {i : Int} {k : Nat} (h0 : 0 ≤ i) (h : i < 2 ^ k) (hk : 0 < k) : i.natAbs.log2 < k := by
  rcases log_small h0 h with e | e
  · exact e
  · subst e
    exact hk
def mShares : DM := fun rs n Q => ∃ (left : Int) (seen : List Int), rs = [.d (.int left), .d (dInts seen)] ∧ (0 ≤ left ∧ left < 2 ^ 64) ∧ (∀ x ∈ seen, 0 ≤ x ∧ x < 2 ^ 64) ∧ seen.length ≤ 50000 ∧ Q (.own ((sharesM left seen).map PyData.int)) n
theorem L_shares : ∀ rs n Q, mShares rs n Q → plainR rs ∧ rs.length = 2 := by
  rintro rs n Q ⟨s, l, rfl, h⟩
  exact plain2
abbrev s_shares : Stmt := topS 19
theorem sc_shares : FnScope ["left", "seen", "together", "parts", "rest", "part", "at"] ["left", "seen"] (defScope s_shares) := ⟨rfl, rfl, rfl, by decide +kernel, rfl, by decide +kernel, by decide +kernel⟩
theorem ok_shares {f : Addr} {fd : FuncData} (F : Fun K "shares" "shares" s_shares f fd) (T : Txt mg) : FnOk P w K mg base CX0 1 f fd ["left", "seen"] (spD mShares) := by
  apply okD F sc_shares L_shares
  case body =>
    intro cdv A outer s H E hr
    exact (psCons (psSet (i := 2) sc_shares.nd rfl (Or.inr rfl) (pdB rsSum (cr_sum rfl) (by rfl) T.b_sum (by decide +kernel) (paCons (pdV (pv 1)) paNil)))
          (psCons (psIf (ptCmp r2Ge op_ge (pdV (pv 0)) (pdV (pv 2)) (nomark _)) (psOne (psRet (pdTy rsList call_list_of (by rfl) T.b_list (by decide +kernel) (paCons (pdV (pv 1)) paNil)))) psNil)
          (psCons ((ps_setLc (i := 3) (own := [("part", 5)]) (tt := tYes) rfl sc_shares.nd rfl rfl (sw_true rfl rfl rfl (by decide +kernel)) (piList (pdV (pv 1))) (blkOk_by (N := ["left", "seen", "together", "parts", "rest", "part", "at"]) (sc := defScope s_shares) (by decide +kernel)) (fun _ _ _ _ _ => (pgN (pg_name (i := 5) sc_shares.nd rfl (Or.inl rfl)))) (fun _ _ _ _ _ => pts_nil) (fun _ _ _ _ _ => (pdOp r2Div op_fdivW (pdOp r2Mul op_mulW (pdV (pv 0)) (pdV (pv 5))) (pdV (pv 2))))).imp (set_le2 (lc_le (by decide) yes_le)))
          (psFrz 3 (psCons (psSet (i := 4) sc_shares.nd rfl (Or.inr rfl) (pdOp r2Sub op_sub (pdV (pv 0)) (pdB rsSum (cr_sum rfl) (by rfl) T.b_sum (by decide +kernel) (paCons (pdV (pv 3)) paNil))))
          (psOne (psRet ((pe_lc (own := [("at", 6), ("part", 5)]) (tt := tYes) rfl sc_shares.nd (piEnum (pi_enum (by rfl) T.b_enumerate (paCons (pdV (pv 3)) paNil))) (blkOk_by (N := ["left", "seen", "together", "parts", "rest", "part", "at"]) (sc := defScope s_shares) (by decide +kernel)) (fun _ _ _ _ _ => (pgTup (n := 2) rfl (pgCons (pgN (pg_name (i := 6) sc_shares.nd rfl (Or.inl rfl))) (pgCons (pgN (pg_name (i := 5) sc_shares.nd rfl (Or.inl rfl))) pgNil)))) (fun _ _ _ _ _ => pts_nil) (fun _ _ _ _ _ => (pdIf (ptCmp r2Lt op_lt (pdV (pv 6)) (pdV (pv 4)) (nomark _)) (pdOp r2Add op_add (pdV (pv 5)) (pdC pe_int)) (pdV (pv 5))))).imp (lc_le (by decide) yes_le)))))))))
  case data =>
    rintro rs n Q ⟨left, seen, rfl, hl, hs, hz, h⟩
    have hsum := sum_le_of hs
    repeat walk_at "d"
    refine ⟨.d (.int seen.sum), by show (intsOf (seen.map PyData.int)).map _ = _; rw [intsOf_map]; rfl, ?_⟩
    repeat walk_at "d"
    refine ite2 (fun c => ?_) (fun c => ?_)
    · have c : seen.sum ≤ left := of_decide_eq_true c
      repeat walk_at "d"
      unfold sharesM at h
      rw [if_pos c] at h
      exact h
    · have c : ¬ seen.sum ≤ left := fun z => c (decide_eq_true z)
      unfold sharesM at h
      rw [if_neg c] at h
      have hm : ∀ p ∈ seen, left * p / seen.sum < 2 ^ 64 ∧ 0 ≤ left * p / seen.sum := fun p hp => by
        have := hs p hp
        have h0 : 0 < seen.sum := by omega
        refine ⟨?_, Int.ediv_nonneg (Int.mul_nonneg hl.1 this.1) (Int.le_of_lt h0)⟩
        refine Int.lt_of_le_of_lt (?_ : _ ≤ p) this.2
        refine Int.ediv_le_of_le_mul h0 ?_
        rw [Int.mul_comm p]
        exact Int.mul_le_mul_of_nonneg_right (by omega) this.1
      repeat walk_at "d"
      refine lcMap ((seen.map fun p => left * p / seen.sum).map PyData.int) rfl (by rw [List.length_map]; omega) (by simp) ?_ ?_
      · intro i d y hd hy
        rw [List.getElem?_map] at hd hy
        rw [List.getElem?_map] at hy
        cases e : seen[i]? with
        | none => rw [e] at hd; cases hd
        | some p =>
          rw [e] at hd hy
          cases hd
          cases hy
          refine ⟨_, rfl, fun R k => ?_⟩
          have hp := hs p (List.mem_of_getElem? e)
          repeat walk_at "d"
          refine ⟨_, if_pos (decide_eq_true (?_ : CMulW left p)), ?_⟩
          · show left.natAbs.log2 + p.natAbs.log2 < 1000000
            have h1 := log_lt hl.1 hl.2 (by decide)
            have h2 := log_lt hp.1 hp.2 (by decide)
            omega
          repeat walk_at "d"
          refine ⟨_, if_pos (decide_eq_true (?_ : CDivW (left * p) seen.sum)), k _ rfl⟩
          refine ⟨by omega, ?_⟩
          have h3 : seen.sum < 2 ^ 100 := by
            have : (seen.length : Int) ≤ 50000 := by omega
            have h4 : (seen.length : Int) * 2 ^ 64 ≤ 50000 * 2 ^ 64 := Int.mul_le_mul_of_nonneg_right this (by decide)
            have h5 : (50000 : Int) * 2 ^ 64 < 2 ^ 100 := by decide
            omega
          have := log_lt hsum.1 h3 (by decide)
          omega
      · generalize hps : (seen.map fun p => left * p / seen.sum) = ps at h ⊢
        have hpl : ps.length = seen.length := by rw [← hps, List.length_map]
        repeat walk_at "d"
        refine ⟨.d (.int ps.sum), by show (intsOf (ps.map PyData.int)).map _ = _; rw [intsOf_map]; rfl, ?_⟩
        repeat walk_at "d"
        refine lcMap _ rfl (by rw [enumD_len, List.length_map]; omega) (by rw [enumD_len, List.length_map, List.length_map, List.length_mapIdx]) ?_ h
        intro i d y hd hy
        obtain ⟨z, ez, rfl⟩ := enumD_at hd
        rw [List.getElem?_map] at ez hy
        rw [List.getElem?_mapIdx] at hy
        cases e : ps[i]? with
        | none => rw [e] at ez; cases ez
        | some p =>
        rw [e] at ez hy
        cases ez
        cases hy
        refine ⟨_, rfl, fun R k => ?_⟩
        repeat walk_at "d"
        refine ite2 (fun c => ?_) (fun c => ?_)
        · have c : (i : Int) < left - ps.sum := of_decide_eq_true c
          repeat walk_at "d"
          refine k _ ?_
          dsimp only
          rw [if_pos c]
          rfl
        · have c : ¬ (i : Int) < left - ps.sum := fun z => c (decide_eq_true z)
          repeat walk_at "d"
          refine k _ ?_
          dsimp only
          rw [if_neg c]
          rfl

end
section
variable [Fam] [Tabz] {P : Program} {w : World} {K : PySem.W.Frag} {mg : Str → Option Value} {base : Heap}
local macro_rules | `(tactic| walk_at "d") => `(tactic| first | refine Or.inl ⟨_, rfl, ?_⟩ | refine ⟨Nat.le_of_ble_eq_true rfl, ?_⟩ | refine ⟨⟨_, rfl⟩, ?_⟩ | refine ⟨_, rfl, ?_⟩ | refine ⟨_, _, rfl, ?_⟩ | refine ⟨_, _, _, rfl, ?_⟩ | refine ⟨_, _, _, _, rfl, ?_⟩)
/-! ### a step -/
structure Res where
  told : List Evt
  out : List Row
  back : List Row
  left : Int
  rank : Int
def Res.dat (r : Res) : PyData := .tuple [dEvts r.told, dRows r.out, dRows r.back, .int r.left, .int r.rank]
def minM (a b : Int) : Int := if b < a then b else a
def ownM (row : Row) (c : Com) (left rank : Int) : Res :=
  if c.guard = "less" then
    ⟨.less row.num c.num (minM left row.left) :: (anewM [hidM row (minM left row.left)] rank).1, [row], (anewM [hidM row (minM left row.left)] rank).2.1, left - minM left row.left, (anewM [hidM row (minM left row.left)] rank).2.2⟩
  else if c.guard = "old" then ⟨[.off row.num row.left], [row], [], left, rank⟩
  else if c.guard = "both" then ⟨[.off row.num row.left, .off c.num left], [row], [], 0, rank⟩
  else if c.guard = "new" then ⟨[.off c.num left], [], [], 0, rank⟩
  else ⟨[], [], [], left, rank⟩
def GuardOk (g : Str) : Prop := g = "old" ∨ g = "new" ∨ g = "both" ∨ g = "less"
def mOwn : DM := fun rs n Q => ∃ (row : Row) (c : Com) (left rank : Int), rs = [.d row.dat, .d c.dat, .d (.int left), .d (.int rank)] ∧ GuardOk c.guard ∧ Q (.d (ownM row c left rank).dat) n
theorem L_step_with_own : ∀ rs n Q, mOwn rs n Q → plainR rs ∧ rs.length = 4 := by
  rintro rs n Q ⟨r, c, l, k, rfl, h⟩
  exact plain4
theorem opCat_ok {a b : List PyData} (h : a.length + b.length ≤ 200000) : opCat (.list a) (.list b) = some (.own (a ++ b)) := if_pos h
theorem inT2 {g a b : Str} (h1 : SeqAt.shaped (.str g) = true) (h2 : SeqAt.shaped (.tuple [.str a, .str b]) = true) : opInT false (.str g) (.tuple [.str a, .str b]) = some (.d (.bool ([PyData.str a, .str b].any fun z => PyData.eqv z (.str g)))) := if_pos ⟨h1, h2⟩
abbrev s_step_with_own : Stmt := topS 17
theorem sc_step_with_own : FnScope ["row", "coming", "left", "rank", "number", "guard", "amount", "told", "back", "events", "out"] ["row", "coming", "left", "rank"] (defScope s_step_with_own) := ⟨rfl, rfl, rfl, by decide +kernel, rfl, by decide +kernel, by decide +kernel⟩
theorem ok_own {f : Addr} {fd : FuncData} (F : Fun K "step_with_own" "step_with_own" s_step_with_own f fd) (T : Txt mg) (c_shown_anew : Cal P w K mg base 2 "shown_anew" ["rows", "rank"] (spD mAnew)) (c_hidden_first : Cal P w K mg base 1 "hidden_first" ["row", "amount"] (spD mHid)) : FnOk P w K mg base CX0 3 f fd ["row", "coming", "left", "rank"] (spD mOwn) := by
  apply okD F sc_step_with_own L_step_with_own
  case body =>
    intro cdv A outer s H E hr
    obtain ⟨_, mG_BOTH⟩ := T.mg_BOTH
    obtain ⟨_, mG_LESS⟩ := T.mg_LESS
    obtain ⟨_, mG_NEW⟩ := T.mg_NEW
    obtain ⟨_, mG_OLD⟩ := T.mg_OLD
    obtain ⟨f_hidden_first, fd_hidden_first, G_hidden_first, m_hidden_first, k_hidden_first, b_hidden_first⟩ := c_hidden_first
    obtain ⟨f_shown_anew, fd_shown_anew, G_shown_anew, m_shown_anew, k_shown_anew, b_shown_anew⟩ := c_shown_anew
    exact (psCons (psPar (ps_par (i := 4) (j := 5) (by rfl) sc_step_with_own.nd rfl rfl (by decide) rfl rfl (paCons (pdIx r2IxT ix_tup (pdV (pv 1)) (pdC pe_int) (fun _ _ => rfl)) (paCons (pdIx r2IxT ix_tup (pdV (pv 1)) (pdC pe_int) (fun _ _ => rfl)) paNil)) (by rfl)))
          (psCons (psIf (ptCmp r2Eq op_eq (pdV (pv 5)) (pdC (pe_glob (v := .str "less") (by rfl) mG_LESS ⟨_, rfl⟩)) (nomark _)) (psCons (psSet (i := 6) sc_step_with_own.nd rfl (Or.inl rfl) (pdB rs2I (call_min2 rfl) (by rfl) T.b_min (by decide +kernel) (paCons (pdV (pv 2)) (paCons (pdIx r2IxT ix_tup (pdV (pv 0)) (pdC pe_int) (fun _ _ => rfl)) paNil))))
            (psCons (psAsg (pdCall (fun _ _ _ q => (L_shown_anew _ _ _ q).1) G_shown_anew (hr.mono (by decide)) (by rfl) m_shown_anew k_shown_anew b_shown_anew pass0 (paCons (pdLst (paCons (pdCall (fun _ _ _ q => (L_hidden_first _ _ _ q).1) G_hidden_first (hr.mono (by decide)) (by rfl) m_hidden_first k_hidden_first b_hidden_first pass0 (paCons (pdV (pv 0)) (paCons (pdV (pv 6)) paNil))) paNil)) (paCons (pdV (pv 3)) paNil))) (pgTup (n := 3) rfl (pgCons (pgN (pg_name (i := 7) sc_step_with_own.nd rfl (Or.inl rfl))) (pgCons (pgN (pg_name (i := 8) sc_step_with_own.nd rfl (Or.inl rfl))) (pgCons (pgN (pg_name (i := 3) sc_step_with_own.nd rfl (Or.inl rfl))) pgNil)))))
            (psOne (psRet (pdTup (paCons (pdOp r2Cat op_cat (pdLst (paCons (pdTup (paCons (pdC pe_str) (paCons (pdIx r2IxT ix_tup (pdV (pv 0)) (pdC pe_int) (fun _ _ => rfl)) (paCons (pdV (pv 4)) (paCons (pdV (pv 6)) paNil))))) paNil)) (pdV (pv 7))) (paCons (pdLst (paCons (pdV (pv 0)) paNil)) (paCons (pdV (pv 8)) (paCons (pdOp r2Sub op_sub (pdV (pv 2)) (pdV (pv 6))) (paCons (pdV (pv 3)) paNil)))))))))) psNil)
          (psCons (psSet (i := 9) sc_step_with_own.nd rfl (Or.inl rfl) (pdLst paNil))
          (psCons (psSet (i := 10) sc_step_with_own.nd rfl (Or.inl rfl) (pdLst paNil))
          (psCons (psIf (ptCmp r2InT (op_inT hr.units65) (pdV (pv 5)) (pdTup (paCons (pdC (pe_glob (v := .str "old") (by rfl) mG_OLD ⟨_, rfl⟩)) (paCons (pdC (pe_glob (v := .str "both") (by rfl) mG_BOTH ⟨_, rfl⟩)) paNil))) (by rfl)) (psCons (psApp (by rfl) (pe_bm PySem.F.plainAttrs_list PySem.F.slot_list_append PySem.F.type_list_append mt_append (pv 9) (pa_cons (pdTup (paCons (pdC pe_str) (paCons (pdIx r2IxT ix_tup (pdV (pv 0)) (pdC pe_int) (fun _ _ => rfl)) (paCons (pdIx r2IxT ix_tup (pdV (pv 0)) (pdC pe_int) (fun _ _ => rfl)) (paCons (pdC pe_str) paNil))))) pa_nil)))
            (psOne (psApp (by rfl) (pe_bm PySem.F.plainAttrs_list PySem.F.slot_list_append PySem.F.type_list_append mt_append (pv 10) (pa_cons (pdV (pv 0)) pa_nil))))) psNil)
          (psCons (psIf (ptCmp r2InT (op_inT hr.units65) (pdV (pv 5)) (pdTup (paCons (pdC (pe_glob (v := .str "new") (by rfl) mG_NEW ⟨_, rfl⟩)) (paCons (pdC (pe_glob (v := .str "both") (by rfl) mG_BOTH ⟨_, rfl⟩)) paNil))) (by rfl)) (psCons (psApp (by rfl) (pe_bm PySem.F.plainAttrs_list PySem.F.slot_list_append PySem.F.type_list_append mt_append (pv 9) (pa_cons (pdTup (paCons (pdC pe_str) (paCons (pdV (pv 4)) (paCons (pdV (pv 2)) (paCons (pdC pe_str) paNil))))) pa_nil)))
            (psOne (psSet (i := 2) sc_step_with_own.nd rfl (Or.inl rfl) (pdC pe_int)))) psNil)
          (psFrz 9 (psFrz 10 (psOne (psRet (pdTup (paCons (pdV (pv 9)) (paCons (pdV (pv 10)) (paCons (pdLst paNil) (paCons (pdV (pv 2)) (paCons (pdV (pv 3)) paNil))))))))))))))))
  case data =>
    rintro rs n Q ⟨row, c, left, rank, rfl, hg, h⟩
    obtain ⟨num, who, side, price, cl, guard⟩ := c
    rcases hg with e | e | e | e <;> (have e : guard = _ := e) <;> subst e
    · repeat walk_at "d"
      refine ⟨_, inT2 (g := "old") (by decide +kernel) (by decide +kernel), ?_⟩
      repeat walk_at "d"
      refine ⟨_, inT2 (g := "old") (by decide +kernel) (by decide +kernel), ?_⟩
      repeat walk_at "d"
      exact h
    · repeat walk_at "d"
      refine ⟨_, inT2 (g := "new") (by decide +kernel) (by decide +kernel), ?_⟩
      repeat walk_at "d"
      refine ⟨_, inT2 (g := "new") (by decide +kernel) (by decide +kernel), ?_⟩
      repeat walk_at "d"
      exact h
    · repeat walk_at "d"
      refine ⟨_, inT2 (g := "both") (by decide +kernel) (by decide +kernel), ?_⟩
      repeat walk_at "d"
      refine ⟨_, inT2 (g := "both") (by decide +kernel) (by decide +kernel), ?_⟩
      repeat walk_at "d"
      exact h
    · repeat walk_at "d"
      refine ⟨[hidM row (minM left row.left)], rank, rfl, by show 1 ≤ 50000; decide, ?_⟩
      repeat walk_at "d"
      have hz := (anew_len [hidM row (minM left row.left)] ([], [], rank)).1
      refine ⟨_, opCat_ok (by rw [List.length_map]; exact Nat.le_trans (Nat.add_le_add_left hz 1) (by show 1 + (0 + 1) ≤ 200000; decide)), ?_⟩
      repeat walk_at "d"
      exact h
def seenOf (ms : List Row) : List Int := ms.map Row.seen
def tradesOf (ms : List Row) (amts : List Int) : List (Row × Int) := (ms.zip amts).filter fun p => decide (0 < p.2)
def tradeE (c : Com) (p : Row × Int) : Evt := if c.side = "buy" then .trade c.num p.1.num p.1.price p.2 else .trade p.1.num c.num p.1.price p.2
def tradesM (ms : List Row) (c : Com) (left rank : Int) : Res :=
  let ps := tradesOf ms (sharesM left (seenOf ms))
  let an := anewM (ps.map fun p => seenM p.1 p.2) rank
  ⟨ps.map (tradeE c) ++ an.1, ps.map Prod.fst, an.2.1, left - (sharesM left (seenOf ms)).sum, an.2.2⟩
theorem shares_len (left : Int) (seen : List Int) : (sharesM left seen).length = seen.length := by
  unfold sharesM
  split
  · rfl
  · rw [List.length_mapIdx, List.length_map]
def mTrades : DM := fun rs n Q => ∃ (ms : List Row) (c : Com) (left rank : Int), rs = [.d (dRows ms), .d c.dat, .d (.int left), .d (.int rank)] ∧ (0 ≤ left ∧ left < 2 ^ 64) ∧ (∀ r ∈ ms, 0 ≤ r.seen ∧ r.seen < 2 ^ 64) ∧ ms.length ≤ 50000 ∧ Q (.d (tradesM ms c left rank).dat) n
theorem L_step_of_trades : ∀ rs n Q, mTrades rs n Q → plainR rs ∧ rs.length = 4 := by
  rintro rs n Q ⟨r, c, l, k, rfl, h⟩
  exact plain4
abbrev s_step_of_trades : Stmt := topS 18
theorem sc_step_of_trades : FnScope ["met", "coming", "left", "rank", "number", "side", "amounts", "events", "out", "less", "row", "amount", "buyer", "seller", "told", "back"] ["met", "coming", "left", "rank"] (defScope s_step_of_trades) := ⟨rfl, rfl, rfl, by decide +kernel, rfl, by decide +kernel, by decide +kernel⟩
theorem ok_trades {f : Addr} {fd : FuncData} (F : Fun K "step_of_trades" "step_of_trades" s_step_of_trades f fd) (T : Txt mg) (c_shown_anew : Cal P w K mg base 2 "shown_anew" ["rows", "rank"] (spD mAnew)) (c_seen_first : Cal P w K mg base 1 "seen_first" ["row", "amount"] (spD mSeen)) (c_shares : Cal P w K mg base 1 "shares" ["left", "seen"] (spD mShares)) : FnOk P w K mg base CX0 3 f fd ["met", "coming", "left", "rank"] (spD mTrades) := by
  apply okD F sc_step_of_trades L_step_of_trades
  case body =>
    intro cdv A outer s H E hr
    obtain ⟨_, mG_BUY⟩ := T.mg_BUY
    obtain ⟨f_seen_first, fd_seen_first, G_seen_first, m_seen_first, k_seen_first, b_seen_first⟩ := c_seen_first
    obtain ⟨f_shares, fd_shares, G_shares, m_shares, k_shares, b_shares⟩ := c_shares
    obtain ⟨f_shown_anew, fd_shown_anew, G_shown_anew, m_shown_anew, k_shown_anew, b_shown_anew⟩ := c_shown_anew
    exact (psCons (psPar (ps_par (i := 4) (j := 5) (by rfl) sc_step_of_trades.nd rfl rfl (by decide) rfl rfl (paCons (pdIx r2IxT ix_tup (pdV (pv 1)) (pdC pe_int) (fun _ _ => rfl)) (paCons (pdIx r2IxT ix_tup (pdV (pv 1)) (pdC pe_int) (fun _ _ => rfl)) paNil)) (by rfl)))
          (psCons (psSet (i := 6) sc_step_of_trades.nd rfl (Or.inl rfl) (pdCall (fun _ _ _ q => (L_shares _ _ _ q).1) G_shares (hr.mono (by decide)) (by rfl) m_shares k_shares b_shares pass0 (paCons (pdV (pv 2)) (paCons ((pe_lc (own := [("row", 10)]) (tt := tYes) rfl sc_step_of_trades.nd (piList (pdV (pv 0))) (blkOk_by (N := ["met", "coming", "left", "rank", "number", "side", "amounts", "events", "out", "less", "row", "amount", "buyer", "seller", "told", "back"]) (sc := defScope s_step_of_trades) (by decide +kernel)) (fun _ _ _ _ _ => (pgN (pg_name (i := 10) sc_step_of_trades.nd rfl (Or.inl rfl)))) (fun _ _ _ _ _ => pts_nil) (fun _ _ _ _ _ => (pdIx r2IxT ix_tup (pdV (pv 10)) (pdC pe_int) (fun _ _ => rfl)))).imp (lc_le (by decide) yes_le)) paNil))))
          (psCons (psSet (i := 7) sc_step_of_trades.nd rfl (Or.inl rfl) (pdLst paNil))
          (psCons (psSet (i := 8) sc_step_of_trades.nd rfl (Or.inl rfl) (pdLst paNil))
          (psCons (psSet (i := 9) sc_step_of_trades.nd rfl (Or.inl rfl) (pdLst paNil))
          (psFrz 6 (psCons (psFor PassesOwn.never rfl (piZip (pi_zip (by rfl) T.b_zip (paCons (pdV (pv 0)) (paCons (pdV (pv 6)) paNil)))) (pgTup (n := 2) rfl (pgCons (pgN (pg_name (i := 10) sc_step_of_trades.nd rfl (Or.inl rfl))) (pgCons (pgN (pg_name (i := 11) sc_step_of_trades.nd rfl (Or.inl rfl))) pgNil)))
           (psOne (psIf (ptCmp r2Gt op_gt (pdV (pv 11)) (pdC pe_int) (nomark _)) (psCons (psAsg (pdIf (ptCmp r2Eq op_eq (pdV (pv 5)) (pdC (pe_glob (v := .str "buy") (by rfl) mG_BUY ⟨_, rfl⟩)) (nomark _)) (pdTup (paCons (pdV (pv 4)) (paCons (pdIx r2IxT ix_tup (pdV (pv 10)) (pdC pe_int) (fun _ _ => rfl)) paNil))) (pdTup (paCons (pdIx r2IxT ix_tup (pdV (pv 10)) (pdC pe_int) (fun _ _ => rfl)) (paCons (pdV (pv 4)) paNil)))) (pgTup (n := 2) rfl (pgCons (pgN (pg_name (i := 12) sc_step_of_trades.nd rfl (Or.inl rfl))) (pgCons (pgN (pg_name (i := 13) sc_step_of_trades.nd rfl (Or.inl rfl))) pgNil))))
              (psCons (psApp (by rfl) (pe_bm PySem.F.plainAttrs_list PySem.F.slot_list_append PySem.F.type_list_append mt_append (pv 7) (pa_cons (pdTup (paCons (pdC pe_str) (paCons (pdV (pv 12)) (paCons (pdV (pv 13)) (paCons (pdIx r2IxT ix_tup (pdV (pv 10)) (pdC pe_int) (fun _ _ => rfl)) (paCons (pdV (pv 11)) paNil)))))) pa_nil)))
              (psCons (psApp (by rfl) (pe_bm PySem.F.plainAttrs_list PySem.F.slot_list_append PySem.F.type_list_append mt_append (pv 8) (pa_cons (pdV (pv 10)) pa_nil)))
              (psOne (psApp (by rfl) (pe_bm PySem.F.plainAttrs_list PySem.F.slot_list_append PySem.F.type_list_append mt_append (pv 9) (pa_cons (pdCall (fun _ _ _ q => (L_seen_first _ _ _ q).1) G_seen_first (hr.mono (by decide)) (by rfl) m_seen_first k_seen_first b_seen_first pass0 (paCons (pdV (pv 10)) (paCons (pdV (pv 11)) paNil))) pa_nil))))))) psNil)))
          (psFrz 9 (psCons (psAsg (pdCall (fun _ _ _ q => (L_shown_anew _ _ _ q).1) G_shown_anew (hr.mono (by decide)) (by rfl) m_shown_anew k_shown_anew b_shown_anew pass0 (paCons (pdV (pv 9)) (paCons (pdV (pv 3)) paNil))) (pgTup (n := 3) rfl (pgCons (pgN (pg_name (i := 14) sc_step_of_trades.nd rfl (Or.inl rfl))) (pgCons (pgN (pg_name (i := 15) sc_step_of_trades.nd rfl (Or.inl rfl))) (pgCons (pgN (pg_name (i := 3) sc_step_of_trades.nd rfl (Or.inl rfl))) pgNil)))))
          (psFrz 7 (psFrz 8 (psOne (psRet (pdTup (paCons (pdOp r2Cat op_cat (pdV (pv 7)) (pdV (pv 14))) (paCons (pdV (pv 8)) (paCons (pdV (pv 15)) (paCons (pdOp r2Sub op_sub (pdV (pv 2)) (pdB rsSum (cr_sum rfl) (by rfl) T.b_sum (by decide +kernel) (paCons (pdV (pv 6)) paNil))) (paCons (pdV (pv 3)) paNil)))))))))))))))))))
  case data =>
    rintro rs n Q ⟨ms, c, left, rank, rfl, hl, hs, hz, h⟩
    repeat walk_at "d"
    refine lcMap ((seenOf ms).map PyData.int) rfl (by rw [List.length_map]; omega) (by simp [seenOf]) ?_ ?_
    · intro i d y hd hy
      obtain ⟨r, hr, rfl⟩ := dat_at hd
      rw [List.getElem?_map] at hy
      unfold seenOf at hy
      rw [List.getElem?_map, hr] at hy
      cases hy
      refine ⟨_, rfl, fun R k => ?_⟩
      repeat walk_at "d"
      exact k _ rfl
    refine ⟨left, seenOf ms, rfl, hl, fun x hx => ?_, by unfold seenOf; rw [List.length_map]; exact hz, ?_⟩
    · unfold seenOf at hx
      obtain ⟨r, hr, rfl⟩ := List.mem_map.mp hx
      exact hs r hr
    have hal : (sharesM left (seenOf ms)).length = ms.length := by rw [shares_len]; unfold seenOf; rw [List.length_map]
    generalize ham : sharesM left (seenOf ms) = am at h hal ⊢
    repeat walk_at "d"
    refine ⟨fun i ρ m => m = n ∧ ∃ j10 j11 j12 j13 j14 j15 : DV, ρ = [.d (dRows ms), .d c.dat, .d (.int left), .d (.int rank), .d (.int c.num), .d (.str c.side), .d (dInts am),
      .own ((((ms.zip am).take i).filter fun p => decide (0 < p.2)).map fun p => (tradeE c p).dat), .own ((((ms.zip am).take i).filter fun p => decide (0 < p.2)).map fun p => p.1.dat), .own ((((ms.zip am).take i).filter fun p => decide (0 < p.2)).map fun p => (seenM p.1 p.2).dat), j10, j11, j12, j13, j14, j15], ⟨rfl, _, _, _, _, _, _, rfl⟩, ?_, ?_⟩
    · rintro i d ρ m hd ⟨rfl, j10, j11, j12, j13, j14, j15, rfl⟩
      obtain ⟨r, a, hp, rfl⟩ : ∃ (r : Row) (a : Int), (ms.zip am)[i]? = some (r, a) ∧ d = .tuple [r.dat, .int a] := by
        unfold zipD at hd
        rw [List.zip_map, List.map_map, List.getElem?_map] at hd
        cases e : (ms.zip am)[i]? with
        | none => rw [e] at hd; cases hd
        | some p => rw [e] at hd; cases hd; exact ⟨p.1, p.2, rfl, rfl⟩
      have hi : i < (ms.zip am).length := (List.getElem?_eq_some_iff.mp hp).1
      have et : ((ms.zip am).take (i + 1)).filter (fun p => decide (0 < p.2)) = ((ms.zip am).take i).filter (fun p => decide (0 < p.2)) ++ if 0 < a then [(r, a)] else [] := by
        rw [List.take_succ, hp, List.filter_append]
        congr 1
        by_cases q : 0 < a <;> simp [q]
      have hb : (((ms.zip am).take i).filter fun p => decide (0 < p.2)).length ≤ 50000 := by
        refine Nat.le_trans (List.length_filter_le _ _) (Nat.le_trans (List.length_take_le _ _) ?_)
        rw [List.length_zip] at hi
        omega
      generalize ((ms.zip am).take i).filter (fun p => decide (0 < p.2)) = ps at et hb ⊢
      repeat walk_at "d"
      refine ite2 (fun q => ?_) (fun q => ?_)
      · have q : 0 < a := of_decide_eq_true q
        rw [if_pos q] at et
        repeat walk_at "d"
        refine ite2 (fun b => ?_) (fun b => ?_)
        · have b : c.side = "buy" := of_decide_eq_true b
          repeat walk_at "d"
          refine ⟨by rw [List.length_map]; omega, ?_⟩
          repeat walk_at "d"
          refine ⟨by rw [List.length_map]; omega, ?_⟩
          repeat walk_at "d"
          refine ⟨by rw [List.length_map]; omega, ?_⟩
          dsimp only
          rw [et, List.map_append, List.map_append, List.map_append, show List.map (fun p => (tradeE c p).dat) [(r, a)] = [PyData.tuple [.str "trade", .int c.num, .int r.num, .int r.price, .int a]] by
            show [(tradeE c (r, a)).dat] = _
            unfold tradeE
            rw [if_pos b]
            rfl]
          exact ⟨rfl, _, _, _, _, _, _, rfl⟩
        · have b : ¬ c.side = "buy" := fun z => b (decide_eq_true z)
          repeat walk_at "d"
          refine ⟨by rw [List.length_map]; omega, ?_⟩
          repeat walk_at "d"
          refine ⟨by rw [List.length_map]; omega, ?_⟩
          repeat walk_at "d"
          refine ⟨by rw [List.length_map]; omega, ?_⟩
          dsimp only
          rw [et, List.map_append, List.map_append, List.map_append, show List.map (fun p => (tradeE c p).dat) [(r, a)] = [PyData.tuple [.str "trade", .int r.num, .int c.num, .int r.price, .int a]] by
            show [(tradeE c (r, a)).dat] = _
            unfold tradeE
            rw [if_neg b]
            rfl]
          exact ⟨rfl, _, _, _, _, _, _, rfl⟩
      · have q : ¬ 0 < a := fun z => q (decide_eq_true z)
        rw [if_neg q, List.append_nil] at et
        dsimp only
        rw [et]
        exact ⟨rfl, _, _, _, _, _, _, rfl⟩
    · rintro ρ m ⟨rfl, j10, j11, j12, j13, j14, j15, rfl⟩
      rw [show (zipD (ms.map Row.dat) (am.map PyData.int)).length = (ms.zip am).length by unfold zipD; rw [List.length_map, List.length_zip, List.length_zip, List.length_map, List.length_map], List.take_length]
      have hb : ((ms.zip am).filter fun p => decide (0 < p.2)).length ≤ 50000 := by
        refine Nat.le_trans (List.length_filter_le _ _) ?_
        rw [List.length_zip]
        omega
      unfold tradesM tradesOf at h
      rw [ham] at h
      generalize (ms.zip am).filter (fun p => decide (0 < p.2)) = ps at h hb ⊢
      repeat walk_at "d"
      refine ⟨ps.map fun p => seenM p.1 p.2, rank, ?_, by rw [List.length_map]; exact hb, ?_⟩
      · unfold dRows
        rw [List.map_map]
        rfl
      have hz := (anew_len (ps.map fun p => seenM p.1 p.2) ([], [], rank)).1
      rw [List.length_map] at hz
      repeat walk_at "d"
      refine ⟨_, opCat_ok (by rw [List.length_map, List.length_map]; exact Nat.le_trans (Nat.add_le_add_left hz _) (by show ps.length + (0 + ps.length) ≤ 200000; omega)), ?_⟩
      repeat walk_at "d"
      refine ⟨.d (.int am.sum), by show (intsOf (am.map PyData.int)).map _ = _; rw [intsOf_map]; rfl, ?_⟩
      repeat walk_at "d"
      simp only [Res.dat, dEvts, dRows, List.map_append, List.map_map] at h
      exact h

end
section
variable [Fam] [Tabz] {P : Program} {w : World} {K : PySem.W.Frag} {mg : Str → Option Value} {base : Heap}
local macro_rules | `(tactic| walk_at "d") => `(tactic| first | refine Or.inl ⟨_, rfl, ?_⟩ | refine ⟨Nat.le_of_ble_eq_true rfl, ?_⟩ | refine ⟨⟨_, rfl⟩, ?_⟩ | refine ⟨_, rfl, ?_⟩ | refine ⟨_, _, rfl, ?_⟩ | refine ⟨_, _, _, rfl, ?_⟩ | refine ⟨_, _, _, _, rfl, ?_⟩)
/-! ### step, the rows that are met -/
def stepM (ms : List Row) (c : Com) (left rank : Int) : Res := match ms.find? (fun r => decide (r.who = c.who)) with
  | some r => ownM r c left rank
  | none => tradesM ms c left rank
def mStep : DM := fun rs n Q => ∃ (ms : List Row) (c : Com) (left rank : Int), rs = [.d (dRows ms), .d c.dat, .d (.int left), .d (.int rank)] ∧ GuardOk c.guard ∧ (0 ≤ left ∧ left < 2 ^ 64) ∧ (∀ r ∈ ms, 0 ≤ r.seen ∧ r.seen < 2 ^ 64) ∧ ms.length ≤ 50000 ∧ Q (.d (stepM ms c left rank).dat) n
theorem L_step : ∀ rs n Q, mStep rs n Q → plainR rs ∧ rs.length = 4 := by
  rintro rs n Q ⟨r, c, l, k, rfl, h⟩
  exact plain4
abbrev s_step : Stmt := topS 16
theorem sc_step : FnScope ["met", "coming", "left", "rank", "row"] ["met", "coming", "left", "rank"] (defScope s_step) := ⟨rfl, rfl, rfl, by decide +kernel, rfl, by decide +kernel, by decide +kernel⟩
theorem ok_step {f : Addr} {fd : FuncData} (F : Fun K "step" "step" s_step f fd) (T : Txt mg) (c_step_with_own : Cal P w K mg base 3 "step_with_own" ["row", "coming", "left", "rank"] (spD mOwn)) (c_step_of_trades : Cal P w K mg base 3 "step_of_trades" ["met", "coming", "left", "rank"] (spD mTrades)) : FnOk P w K mg base CX0 4 f fd ["met", "coming", "left", "rank"] (spD mStep) := by
  apply okD F sc_step L_step
  case body =>
    intro cdv A outer s H E hr
    obtain ⟨f_step_of_trades, fd_step_of_trades, G_step_of_trades, m_step_of_trades, k_step_of_trades, b_step_of_trades⟩ := c_step_of_trades
    obtain ⟨f_step_with_own, fd_step_with_own, G_step_with_own, m_step_with_own, k_step_with_own, b_step_with_own⟩ := c_step_with_own
    exact (psCons (psFor PassesOwn.never rfl (piList (pdV (pv 0))) (pgN (pg_name (i := 4) sc_step.nd rfl (Or.inl rfl)))
           (psOne (psIf (ptCmp r2Eq op_eq (pdIx r2IxT ix_tup (pdV (pv 4)) (pdC pe_int) (fun _ _ => rfl)) (pdIx r2IxT ix_tup (pdV (pv 1)) (pdC pe_int) (fun _ _ => rfl)) (nomark _)) (psOne (psRet (pdCall (fun _ _ _ q => (L_step_with_own _ _ _ q).1) G_step_with_own (hr.mono (by decide)) (by rfl) m_step_with_own k_step_with_own b_step_with_own pass0 (paCons (pdV (pv 4)) (paCons (pdV (pv 1)) (paCons (pdV (pv 2)) (paCons (pdV (pv 3)) paNil))))))) psNil)))
          (psOne (psRet (pdCall (fun _ _ _ q => (L_step_of_trades _ _ _ q).1) G_step_of_trades (hr.mono (by decide)) (by rfl) m_step_of_trades k_step_of_trades b_step_of_trades pass0 (paCons (pdV (pv 0)) (paCons (pdV (pv 1)) (paCons (pdV (pv 2)) (paCons (pdV (pv 3)) paNil))))))))
  case data =>
    rintro rs n Q ⟨ms, c, left, rank, rfl, hg, hl, hs, hz, h⟩
    unfold stepM at h
    repeat walk_at "d"
    refine ⟨fun i ρ m => m = n ∧ (ms.take i).find? (fun r => decide (r.who = c.who)) = none ∧ ∃ j4 : DV, ρ = [.d (dRows ms), .d c.dat, .d (.int left), .d (.int rank), j4], ⟨rfl, rfl, _, rfl⟩, ?_, ?_⟩
    · rintro i d ρ m hd ⟨rfl, hn, j4, rfl⟩
      obtain ⟨r, hr, rfl⟩ := dat_at hd
      have hi : i < ms.length := (List.getElem?_eq_some_iff.mp hr).1
      have et : ms.take (i + 1) = ms.take i ++ [r] := by rw [List.take_succ, hr]; rfl
      repeat walk_at "d"
      refine ite2 (fun q => ?_) (fun q => ?_)
      · have q : r.who = c.who := of_decide_eq_true q
        have e : ms.find? (fun r => decide (r.who = c.who)) = some r := by
          rw [← List.take_append_drop (i + 1) ms, et, List.find?_append, List.find?_append, hn]
          simp [q]
        rw [e] at h
        repeat walk_at "d"
        exact ⟨hg, h⟩
      · have q : ¬ r.who = c.who := fun z => q (decide_eq_true z)
        refine ⟨rfl, ?_, _, rfl⟩
        rw [et, List.find?_append, hn]
        simp [q]
    · rintro ρ m ⟨rfl, hn, j4, rfl⟩
      rw [List.length_map, List.take_length] at hn
      rw [hn] at h
      repeat walk_at "d"
      exact ⟨hl, hs, hz, h⟩
def sideM (rows : List Row) (s : Str) : List Row := rows.filter fun r => decide (r.side = s)
def bestM (s : Str) (ps : List Int) : Int := if s = "buy" then (maxI ps).getD 0 else (minI ps).getD 0
def leRank (a b : Row) : Bool := decide (a.rank ≤ b.rank)
def levelM (rows : List Row) (s : Str) : List Row := ((sideM rows s).filter fun r => decide (r.price = bestM s ((sideM rows s).map Row.price))).mergeSort leRank
def metM (rows : List Row) (s rule : Str) : List Row := if (sideM rows s).isEmpty = true then [] else if rule = "share" then levelM rows s else (levelM rows s).take 1
def mMet : DM := fun rs n Q => ∃ (rows : List Row) (s rule : Str), rs = [.d (dRows rows), .d (.str s), .d (.str rule)] ∧ rows.length ≤ 50000 ∧ Q (.d (dRows (metM rows s rule))) n
theorem L_rows_met : ∀ rs n Q, mMet rs n Q → plainR rs ∧ rs.length = 3 := by
  rintro rs n Q ⟨r, c, l, rfl, h⟩
  exact plain3
theorem dat_mem {rs : List Row} {d : PyData} (h : d ∈ rs.map Row.dat) : ∃ r ∈ rs, d = r.dat := by
  obtain ⟨r, h1, h2⟩ := List.mem_map.mp h
  exact ⟨r, h1, h2.symm⟩
theorem filter_dat (p : Row → Bool) (q : PyData → Bool) (h : ∀ r, q r.dat = p r) (rs : List Row) : (rs.map Row.dat).filter q = (rs.filter p).map Row.dat := by
  rw [List.filter_map]
  congr 2
  funext r
  exact h r
theorem sort_dat (rs : List Row) : (rs.map Row.dat).mergeSort leR = (rs.mergeSort leRank).map Row.dat := by
  rw [List.map_mergeSort (s := leR)]
  intro a _ b _
  rfl
theorem intsOf_price (rs : List Row) : intsOf (rs.map fun r => PyData.int r.price) = some (rs.map Row.price) := by
  have := intsOf_map (rs.map Row.price)
  rw [List.map_map] at this
  exact this
theorem bMax_ok (i : Int) (is : List Int) : bMaxL [.list ((i :: is).map PyData.int)] = some (.d (.int ((maxI (i :: is)).getD 0))) := by
  show (intsOf ((i :: is).map PyData.int)).bind _ = _
  rw [intsOf_map]
  rfl
theorem bMin_ok (i : Int) (is : List Int) : bMinL [.list ((i :: is).map PyData.int)] = some (.d (.int ((minI (i :: is)).getD 0))) := by
  show (intsOf ((i :: is).map PyData.int)).bind _ = _
  rw [intsOf_map]
  rfl
theorem cut1 (ds : List PyData) : cutD ds none (some 1) = ds.take 1 := by
  unfold cutD
  cases ds with
  | nil => rfl
  | cons d ds =>
    have e1 : HT.sIx (d :: ds).length 0 none = 0 := rfl
    have e2 : HT.sIx (d :: ds).length (d :: ds).length (some 1) = 1 := by
      unfold HT.sIx
      simp
    rw [e1, e2]
    rfl
abbrev s_rows_met : Stmt := topS 15
theorem sc_rows_met : FnScope ["rows", "side", "rule", "others", "prices", "best", "level", "row"] ["rows", "side", "rule"] (defScope s_rows_met) := ⟨rfl, rfl, rfl, by decide +kernel, rfl, by decide +kernel, by decide +kernel⟩
theorem ok_met {f cC PA : Addr} {fd : FuncData} (F : FunC K "rows_met" "rows_met" s_rows_met f cC fd) (T : Txt mg) (TB : LamX.TabB base mg cC PA) (hmT : (PA, ("rows_met.<locals>." : Str) ++ "<lambda>") ∈ Tabz.T) (hu : ∀ p ∈ Tabz.T, p.1 = PA → p.2 = ("rows_met.<locals>." : Str) ++ "<lambda>") : FnOk P w K mg base CX0 2 f fd ["rows", "side", "rule"] (spD mMet) := by
  apply okDC F sc_rows_met L_rows_met
  case body =>
    intro A outer s H E hr
    obtain ⟨_, mG_BUY⟩ := T.mg_BUY
    obtain ⟨_, mG_SHARE⟩ := T.mg_SHARE
    exact (psCons ((ps_setLc (i := 3) (own := [("row", 7)]) rfl sc_rows_met.nd rfl rfl (sw_true rfl rfl rfl (by decide +kernel)) (piList (pdV (pv 0))) (blkOk_by (N := ["rows", "side", "rule", "others", "prices", "best", "level", "row"]) (sc := defScope s_rows_met) (by decide +kernel)) (fun _ _ _ _ _ => (pgN (pg_name (i := 7) sc_rows_met.nd rfl (Or.inl rfl)))) (fun _ _ _ _ _ => (pts_one (ptCmp r2Eq op_eq (pdIx r2IxT ix_tup (pdV (pv 7)) (pdC pe_int) (fun _ _ => rfl)) (pdV (pv 1)) (nomark _)))) (fun _ _ _ _ _ => (pdV (pv 7)))).imp (set_le2 (lc_le (by decide) (fun _ _ _ q => q))))
          (psFrz 3 (psCons (psIf (ptNot (ptTru (pdV (pv 3)) (by intro _; rfl))) (psOne (psRet (pdCold (pdLst paNil)))) psNil)
          (psCons ((ps_setLc (i := 4) (own := [("row", 7)]) (tt := tYes) rfl sc_rows_met.nd rfl rfl (sw_true rfl rfl rfl (by decide +kernel)) (piList (pdV (pv 3))) (blkOk_by (N := ["rows", "side", "rule", "others", "prices", "best", "level", "row"]) (sc := defScope s_rows_met) (by decide +kernel)) (fun _ _ _ _ _ => (pgN (pg_name (i := 7) sc_rows_met.nd rfl (Or.inl rfl)))) (fun _ _ _ _ _ => pts_nil) (fun _ _ _ _ _ => (pdIx r2IxT ix_tup (pdV (pv 7)) (pdC pe_int) (fun _ _ => rfl)))).imp (set_le2 (lc_le (by decide) yes_le)))
          (psFrz 4 (psCons (psSet (i := 5) sc_rows_met.nd rfl (Or.inr rfl) (pdIf (ptCmp r2Eq op_eq (pdV (pv 1)) (pdC (pe_glob (v := .str "buy") (by rfl) mG_BUY ⟨_, rfl⟩)) (nomark _)) (pdB rsMax (cr_max rfl) (by rfl) T.b_max (by decide +kernel) (paCons (pdV (pv 4)) paNil)) (pdB rsMin (cr_min rfl) (by rfl) T.b_min (by decide +kernel) (paCons (pdV (pv 4)) paNil))))
          (psCons (psSet (i := 6) sc_rows_met.nd rfl (Or.inl rfl) (pdSort7 (pe_sortRk rfl T.b_sorted TB rfl hmT hu (hr.mono (by decide)) ((pe_lc (own := [("row", 7)]) rfl sc_rows_met.nd (piList (pdV (pv 3))) (blkOk_by (N := ["rows", "side", "rule", "others", "prices", "best", "level", "row"]) (sc := defScope s_rows_met) (by decide +kernel)) (fun _ _ _ _ _ => (pgN (pg_name (i := 7) sc_rows_met.nd rfl (Or.inl rfl)))) (fun _ _ _ _ _ => (pts_one (ptCmp r2Eq op_eq (pdIx r2IxT ix_tup (pdV (pv 7)) (pdC pe_int) (fun _ _ => rfl)) (pdV (pv 5)) (nomark _)))) (fun _ _ _ _ _ => (pdV (pv 7)))).imp (lc_le (by decide) (fun _ _ _ q => q))))))
          (psFrz 6 (psOne (psRet (pdCold (pdIf (ptCmp r2Eq op_eq (pdV (pv 2)) (pdC (pe_glob (v := .str "share") (by rfl) mG_SHARE ⟨_, rfl⟩)) (nomark _)) (pdV (pv 6)) (pdSl slLD sl_list (pdV (pv 6)) poNone (poSome (pdC pe_int)))))))))))))))
  case data =>
    rintro rs n Q ⟨rows, s, rule, rfl, hz, h⟩
    repeat walk_at "d"
    refine lcFil (fun d => match d with | .tuple [_, _, .str x, _, _, _, _, _] => decide (x = s) | _ => false) rfl (by rw [List.length_map]; omega) ?_ ?_
    · intro d hd
      obtain ⟨r, hr, rfl⟩ := dat_mem hd
      refine ⟨_, rfl, fun R k => ?_, fun R k => ?_⟩
      · repeat walk_at "d"
        exact k
      · repeat walk_at "d"
        exact k
    rw [filter_dat (fun r => decide (r.side = s)) _ (fun r => rfl)]
    show _ ∧ _
    have hlen : (sideM rows s).length ≤ 50000 := Nat.le_trans (List.length_filter_le _ _) hz
    unfold metM at h
    unfold levelM at h
    rw [show (rows.filter fun r => decide (r.side = s)) = sideM rows s from rfl]
    generalize sideM rows s = os at h hlen ⊢
    repeat walk_at "d"
    cases os with
    | nil =>
      repeat walk_at "d"
      exact h
    | cons o os =>
      rw [if_neg (by simp)] at h
      repeat walk_at "d"
      refine lcMap ((Row.price o :: os.map Row.price).map PyData.int) rfl (by rw [List.length_map]; omega) (by simp) ?_ ?_
      · intro i d y hd hy
        obtain ⟨r, hr, rfl⟩ := dat_at hd
        rw [show (o.price :: os.map Row.price) = (o :: os).map Row.price from rfl, List.getElem?_map, List.getElem?_map, hr] at hy
        cases hy
        refine ⟨_, rfl, fun R k => ?_⟩
        repeat walk_at "d"
        exact k _ rfl
      repeat walk_at "d"
      refine ite2 (fun q => ?_) (fun q => ?_)
      · have q : s = "buy" := of_decide_eq_true q
        repeat walk_at "d"
        refine ⟨.d (.int (bestM s (List.map Row.price (o :: os)))), ?_, ?_⟩
        · unfold bestM
          rw [if_pos q]
          exact bMax_ok _ _
        generalize bestM s (List.map Row.price (o :: os)) = b at h ⊢
        repeat walk_at "d"
        refine lcFil (fun d => match d with | .tuple [_, _, _, .int x, _, _, _, _] => decide (x = b) | _ => false) rfl (by rw [List.length_map]; exact Nat.le_trans hlen (by decide)) ?_ ?_
        · intro d hd
          obtain ⟨r, hr, rfl⟩ := dat_mem hd
          refine ⟨_, rfl, fun R k => ?_, fun R k => ?_⟩
          · repeat walk_at "d"
            exact k
          · repeat walk_at "d"
            exact k
        rw [filter_dat (fun r => decide (r.price = b)) _ (fun r => rfl)]
        refine ⟨_, rfl, fun d hd => ?_, ?_⟩
        · obtain ⟨r, hr, rfl⟩ := dat_mem hd
          rfl
        rw [sort_dat]
        repeat walk_at "d"
        refine ite2 (fun q2 => ?_) (fun q2 => ?_)
        · have q2 : rule = "share" := of_decide_eq_true q2
          rw [if_pos q2] at h
          repeat walk_at "d"
          exact h
        · have q2 : ¬ rule = "share" := fun z => q2 (decide_eq_true z)
          rw [if_neg q2] at h
          repeat walk_at "d"
          rw [cut1, ← List.map_take]
          exact h
      · have q : ¬ s = "buy" := fun z => q (decide_eq_true z)
        repeat walk_at "d"
        refine ⟨.d (.int (bestM s (List.map Row.price (o :: os)))), ?_, ?_⟩
        · unfold bestM
          rw [if_neg q]
          exact bMin_ok _ _
        generalize bestM s (List.map Row.price (o :: os)) = b at h ⊢
        repeat walk_at "d"
        refine lcFil (fun d => match d with | .tuple [_, _, _, .int x, _, _, _, _] => decide (x = b) | _ => false) rfl (by rw [List.length_map]; exact Nat.le_trans hlen (by decide)) ?_ ?_
        · intro d hd
          obtain ⟨r, hr, rfl⟩ := dat_mem hd
          refine ⟨_, rfl, fun R k => ?_, fun R k => ?_⟩
          · repeat walk_at "d"
            exact k
          · repeat walk_at "d"
            exact k
        rw [filter_dat (fun r => decide (r.price = b)) _ (fun r => rfl)]
        refine ⟨_, rfl, fun d hd => ?_, ?_⟩
        · obtain ⟨r, hr, rfl⟩ := dat_mem hd
          rfl
        rw [sort_dat]
        repeat walk_at "d"
        refine ite2 (fun q2 => ?_) (fun q2 => ?_)
        · have q2 : rule = "share" := of_decide_eq_true q2
          rw [if_pos q2] at h
          repeat walk_at "d"
          exact h
        · have q2 : ¬ rule = "share" := fun z => q2 (decide_eq_true z)
          rw [if_neg q2] at h
          repeat walk_at "d"
          rw [cut1, ← List.map_take]
          exact h

end
section
variable [Fam] [Tabz] {P : Program} {w : World} {K : PySem.W.Frag} {mg : Str → Option Value} {base : Heap}
local macro_rules | `(tactic| walk_at "d") => `(tactic| first | refine Or.inl ⟨_, rfl, ?_⟩ | refine ⟨Nat.le_of_ble_eq_true rfl, ?_⟩ | refine ⟨⟨_, rfl⟩, ?_⟩ | refine ⟨_, rfl, ?_⟩ | refine ⟨_, _, rfl, ?_⟩ | refine ⟨_, _, _, rfl, ?_⟩ | refine ⟨_, _, _, _, rfl, ?_⟩)
/-! ### ranked -/
def leRow (neg : Bool) (a b : Row) : Bool := decide (key1 neg a.price < key1 neg b.price ∨ (key1 neg a.price = key1 neg b.price ∧ a.rank ≤ b.rank))
def rankM (rows : List Row) : List Row := (sideM rows "buy").mergeSort (leRow true) ++ (sideM rows "sell").mergeSort (leRow false)
theorem sort_row (neg : Bool) (rs : List Row) : (rs.map Row.dat).mergeSort (leK neg) = (rs.mergeSort (leRow neg)).map Row.dat := by
  rw [List.map_mergeSort (s := leK neg)]
  intro a _ b _
  rfl
def mRanked : DM := fun rs n Q => ∃ rows : List Row, rs = [.d (dRows rows)] ∧ rows.length ≤ 50000 ∧ Q (.own ((rankM rows).map Row.dat)) n
theorem L_ranked : ∀ rs n Q, mRanked rs n Q → plainR rs ∧ rs.length = 1 := by
  rintro rs n Q ⟨r, rfl, h⟩
  exact plain1
abbrev s_ranked : Stmt := topS 9
theorem sc_ranked : FnScope ["rows", "buys", "sells", "row"] ["rows"] (defScope s_ranked) := ⟨rfl, rfl, rfl, by decide +kernel, rfl, by decide +kernel, by decide +kernel⟩
theorem ok_ranked {f cC PA : Addr} {fd : FuncData} (F : FunC K "ranked" "ranked" s_ranked f cC fd) (T : Txt mg) (TB : LamX.TabB base mg cC PA) (hmT : (PA, ("ranked.<locals>." : Str) ++ "<lambda>") ∈ Tabz.T) (hu : ∀ p ∈ Tabz.T, p.1 = PA → p.2 = ("ranked.<locals>." : Str) ++ "<lambda>") : FnOk P w K mg base CX0 2 f fd ["rows"] (spD mRanked) := by
  apply okDC F sc_ranked L_ranked
  case body =>
    intro A outer s H E hr
    obtain ⟨_, mG_BUY⟩ := T.mg_BUY
    obtain ⟨_, mG_SELL⟩ := T.mg_SELL
    exact (psCons ((ps_setLc (i := 1) (own := [("row", 3)]) rfl sc_ranked.nd rfl rfl (sw_true rfl rfl rfl (by decide +kernel)) (piList (pdV (pv 0))) (blkOk_by (N := ["rows", "buys", "sells", "row"]) (sc := defScope s_ranked) (by decide +kernel)) (fun _ _ _ _ _ => (pgN (pg_name (i := 3) sc_ranked.nd rfl (Or.inl rfl)))) (fun _ _ _ _ _ => (pts_one (ptCmp r2Eq op_eq (pdIx r2IxT ix_tup (pdV (pv 3)) (pdC pe_int) (fun _ _ => rfl)) (pdC (pe_glob (v := .str "buy") (by rfl) mG_BUY ⟨_, rfl⟩)) (nomark _)))) (fun _ _ _ _ _ => (pdV (pv 3)))).imp (set_le2 (lc_le (by decide) (fun _ _ _ q => q))))
          (psCons ((ps_setLc (i := 2) (own := [("row", 3)]) rfl sc_ranked.nd rfl rfl (sw_true rfl rfl rfl (by decide +kernel)) (piList (pdV (pv 0))) (blkOk_by (N := ["rows", "buys", "sells", "row"]) (sc := defScope s_ranked) (by decide +kernel)) (fun _ _ _ _ _ => (pgN (pg_name (i := 3) sc_ranked.nd rfl (Or.inl rfl)))) (fun _ _ _ _ _ => (pts_one (ptCmp r2Eq op_eq (pdIx r2IxT ix_tup (pdV (pv 3)) (pdC pe_int) (fun _ _ => rfl)) (pdC (pe_glob (v := .str "sell") (by rfl) mG_SELL ⟨_, rfl⟩)) (nomark _)))) (fun _ _ _ _ _ => (pdV (pv 3)))).imp (set_le2 (lc_le (by decide) (fun _ _ _ q => q))))
          (psFrz 1 (psCons (psSet (i := 1) sc_ranked.nd rfl (Or.inl rfl) (pdSortR (pe_sortLam (neg := true) rfl T.b_sorted TB rfl hmT hu (hr.mono (by decide)) (pdV (pv 1)))))
          (psFrz 2 (psCons (psSet (i := 2) sc_ranked.nd rfl (Or.inl rfl) (pdSortR (pe_sortLam (neg := false) (p4 := ⟨0, 0, 0, 0⟩) rfl T.b_sorted TB rfl hmT hu (hr.mono (by decide)) (pdV (pv 2)))))
          (psFrz 1 (psFrz 2 (psOne (psRet (pdOp r2Cat op_cat (pdV (pv 1)) (pdV (pv 2)))))))))))))
  case data =>
    rintro rs n Q ⟨rows, rfl, hz, h⟩
    have flt : ∀ (s : Str) (d : PyData), d ∈ rows.map Row.dat → ∃ r : Row, r ∈ rows ∧ d = r.dat := fun s d hd => dat_mem hd
    repeat walk_at "d"
    refine lcFil (fun d => match d with | .tuple [_, _, .str x, _, _, _, _, _] => decide (x = "buy") | _ => false) rfl (by rw [List.length_map]; omega) ?_ ?_
    · intro d hd
      obtain ⟨r, hr, rfl⟩ := dat_mem hd
      refine ⟨_, rfl, fun R k => ?_, fun R k => ?_⟩
      · repeat walk_at "d"
        exact k
      · repeat walk_at "d"
        exact k
    rw [filter_dat (fun r => decide (r.side = "buy")) _ (fun r => rfl)]
    repeat walk_at "d"
    refine lcFil (fun d => match d with | .tuple [_, _, .str x, _, _, _, _, _] => decide (x = "sell") | _ => false) rfl (by rw [List.length_map]; omega) ?_ ?_
    · intro d hd
      obtain ⟨r, hr, rfl⟩ := dat_mem hd
      refine ⟨_, rfl, fun R k => ?_, fun R k => ?_⟩
      · repeat walk_at "d"
        exact k
      · repeat walk_at "d"
        exact k
    rw [filter_dat (fun r => decide (r.side = "sell")) _ (fun r => rfl)]
    have l1 := List.length_filter_le (fun r : Row => decide (r.side = "buy")) rows
    have l2 := List.length_filter_le (fun r : Row => decide (r.side = "sell")) rows
    repeat walk_at "d"
    refine ⟨fun d hd => ?_, ?_⟩
    · obtain ⟨r, hr, rfl⟩ := dat_mem hd
      rfl
    rw [sort_row]
    repeat walk_at "d"
    refine ⟨fun d hd => ?_, ?_⟩
    · obtain ⟨r, hr, rfl⟩ := dat_mem hd
      rfl
    rw [sort_row]
    repeat walk_at "d"
    refine ⟨_, opCat_ok (by rw [List.length_map, List.length_map, List.length_mergeSort, List.length_mergeSort]; omega), ?_⟩
    rw [← List.map_append]
    exact h

end
section
variable [Fam] [Tabz] {P : Program} {w : World} {K : PySem.W.Frag} {mg : Str → Option Value} {base : Heap}
/-! ### the plain rule by rank: its mathematics -/
structure MSt where
  rows : List Row
  evts : List Evt
  left : Int
  rank : Int
def outM (rows out : List Row) : List Row := rows.filter fun r => !(out.any fun o => PyData.eqv o.dat r.dat)
def nextM (c : Com) (rule : Str) (st : MSt) : MSt :=
  let r := stepM (metM st.rows (agM c.side) rule) c st.left st.rank
  ⟨outM st.rows r.out ++ r.back, st.evts ++ r.told, r.left, r.rank⟩
def meetF (c : Com) (band : Option Int) (anchor : Int) (rule : Str) : Nat → MSt → Option (MSt × Bool)
  | 0, _ => none
  | k + 1, st => if 0 < st.left then
      match metM st.rows (agM c.side) rule with
      | [] => some (st, false)
      | m :: _ => if letsM c.price c.side m.price = true then (if farM m.price band anchor = true then some (st, true) else meetF c band anchor rule k (nextM c rule st)) else some (st, false)
    else some (st, false)
def RowOk (r : Row) : Prop := 1 ≤ r.seen ∧ r.seen ≤ r.left ∧ r.left < 2 ^ 64 ∧ (∀ p, r.part = some p → 1 ≤ p ∧ p < 2 ^ 64) ∧ (r.part = none → r.seen = r.left) ∧ PyData.strOk r.who = true ∧ (r.side = "buy" ∨ r.side = "sell")
def phi (r : Row) : Nat := 1 + match r.part with
  | none => 0
  | some p => ((r.left - r.seen + p - 1) / p).toNat
def Phi (rs : List Row) : Nat := (rs.map phi).sum
theorem Phi_app (a b : List Row) : Phi (a ++ b) = Phi a + Phi b := by
  unfold Phi
  rw [List.map_append, List.sum_append]
theorem Phi_filter (p : Row → Bool) : ∀ rs : List Row, Phi (rs.filter p) ≤ Phi rs
  | [] => Nat.le_refl _
  | r :: rs => by
    have := Phi_filter p rs
    rw [List.filter_cons]
    split
    · show phi r + Phi (rs.filter p) ≤ phi r + Phi rs
      omega
    · show _ ≤ phi r + Phi rs
      omega
theorem side_lay {s : Str} (h : s = "buy" ∨ s = "sell") : PyData.strOk s = true := by
  rcases h with rfl | rfl <;> decide +kernel
theorem Row.lay {r : Row} (h : PyData.strOk r.who = true) (h2 : r.side = "buy" ∨ r.side = "sell") : r.dat.canLay0 = true := by
  obtain ⟨num, who, side, price, part, left, seen, rank⟩ := r
  have h2 := side_lay h2
  cases part <;> simp_all [Row.dat, datP, PyData.canLay0, PyData.canLayAll0]
theorem Row.self {r : Row} (h : RowOk r) : PyData.eqv r.dat r.dat = true := SeqAt.eqv_refl _ (Row.lay h.2.2.2.2.2.1 h.2.2.2.2.2.2)
theorem Phi_out {rows : List Row} {m : Row} (hm : m ∈ rows) (ok : RowOk m) : Phi (outM rows [m]) + phi m ≤ Phi rows := by
  induction rows with
  | nil => cases hm
  | cons r rs ih =>
    have e : outM (r :: rs) [m] = if PyData.eqv m.dat r.dat = true then outM rs [m] else r :: outM rs [m] := by
      unfold outM
      rw [List.filter_cons]
      cases q : PyData.eqv m.dat r.dat <;> simp [q]
    rw [e]
    have hf : Phi (outM rs [m]) ≤ Phi rs := Phi_filter _ _
    rcases List.mem_cons.mp hm with z | z
    · subst z
      rw [if_pos (Row.self ok)]
      show _ ≤ phi m + Phi rs
      omega
    · have := ih z
      split
      · show _ ≤ phi r + Phi rs
        omega
      · show phi r + Phi (outM rs [m]) + phi m ≤ phi r + Phi rs
        omega
theorem out_len (rows out : List Row) : (outM rows out).length ≤ rows.length := List.length_filter_le _ _
theorem out_lt {rows : List Row} {m : Row} (hm : m ∈ rows) (ok : RowOk m) : (outM rows [m]).length + 1 ≤ rows.length := by
  induction rows with
  | nil => cases hm
  | cons r rs ih =>
    have e : outM (r :: rs) [m] = if PyData.eqv m.dat r.dat = true then outM rs [m] else r :: outM rs [m] := by
      unfold outM
      rw [List.filter_cons]
      cases q : PyData.eqv m.dat r.dat <;> simp [q]
    rw [e]
    have hf : (outM rs [m]).length ≤ rs.length := out_len _ _
    rcases List.mem_cons.mp hm with z | z
    · subst z
      rw [if_pos (Row.self ok)]
      show _ ≤ rs.length + 1
      omega
    · have := ih z
      split
      · show _ ≤ rs.length + 1
        omega
      · show (outM rs [m]).length + 1 + 1 ≤ rs.length + 1
        omega
/-- what a step leaves -/
structure StepOk (m : Row) (left : Int) (r : Res) : Prop where
  l0 : 0 ≤ r.left
  l1 : r.left ≤ left
  ev : r.told.length ≤ 3
  out : r.out = [] ∨ r.out = [m]
  back : r.back = [] ∨ ∃ b, r.back = [b] ∧ RowOk b ∧ r.out = [m] ∧ phi b ≤ phi m ∧ (r.left = 0 ∨ phi b + 1 ≤ phi m)
  stay : r.out = [] → r.left = 0 ∧ r.back = []
theorem anew_one (r : Row) (k : Int) : anewM [r] k = if r.seen > 0 then ([], [r], k) else if r.left > 0 then ([.shown r.num (partM r.part r.left)], [{ r with seen := partM r.part r.left, rank := k }], k + 1) else ([], [], k) := by
  unfold anewM
  simp only [List.foldl_cons, List.foldl_nil, anewS]
  split
  · rfl
  · split <;> rfl
theorem share_one {left seen : Int} (h : 0 < seen) (hl : 0 ≤ left) : sharesM left [seen] = [if seen ≤ left then seen else left] := by
  unfold sharesM
  have e : [seen].sum = seen := by simp
  rw [e]
  by_cases c : seen ≤ left
  · rw [if_pos c, if_pos c]
  · rw [if_neg c, if_neg c]
    have e2 : left * seen / seen = left := Int.mul_ediv_cancel _ (by omega)
    simp [e2]
theorem own_ok {m : Row} {c : Com} {left rank : Int} (ok : RowOk m) (hl : 0 < left) (hg : GuardOk c.guard) : StepOk m left (ownM m c left rank) := by
  obtain ⟨h1, h2, h3, h4, h5, h6, h7⟩ := ok
  unfold ownM
  by_cases g1 : c.guard = "less"
  · rw [if_pos g1, anew_one]
    have hmin : 0 < minM left m.left ∧ minM left m.left ≤ left ∧ minM left m.left ≤ m.left ∧ (minM left m.left = left ∨ minM left m.left = m.left) := by
      unfold minM
      split <;> omega
    obtain ⟨a0, a1, a2, a3⟩ := hmin
    generalize minM left m.left = a at a0 a1 a2 a3
    have hs : (hidM m a).seen = if m.left - a < m.seen then m.left - a else m.seen := rfl
    have hl' : (hidM m a).left = m.left - a := rfl
    rw [hs, hl']
    by_cases z : m.left - a = 0
    · rw [z, show (if (0 : Int) < m.seen then (0 : Int) else m.seen) = 0 from if_pos (by omega), if_neg (by omega), if_neg (by omega)]
      exact ⟨by show 0 ≤ left - a; omega, by show left - a ≤ left; omega, by show 1 ≤ 3; omega, .inr rfl, .inl rfl, fun q => by cases q⟩
    · rw [if_pos (by split <;> omega)]
      have zl : left - a = 0 := by omega
      have pz : phi (hidM m a) ≤ phi m := by
        unfold phi
        show 1 + (match m.part with | none => 0 | some p => ((m.left - a - (if m.left - a < m.seen then m.left - a else m.seen) + p - 1) / p).toNat) ≤ 1 + _
        cases e : m.part with
        | none => exact Nat.le_refl _
        | some p =>
          have hp := h4 p e
          show 1 + ((m.left - a - (if m.left - a < m.seen then m.left - a else m.seen) + p - 1) / p).toNat ≤ 1 + ((m.left - m.seen + p - 1) / p).toNat
          have : (m.left - a - (if m.left - a < m.seen then m.left - a else m.seen) + p - 1) / p ≤ (m.left - m.seen + p - 1) / p := Int.ediv_le_ediv (by omega) (by split <;> omega)
          omega
      refine ⟨by show 0 ≤ left - a; omega, by show left - a ≤ left; omega, by show 1 ≤ 3; omega, .inr rfl, .inr ⟨_, rfl, ⟨?_, ?_, ?_, h4, ?_, h6, h7⟩, rfl, pz, .inl zl⟩, fun q => by cases q⟩
      · show 1 ≤ (if m.left - a < m.seen then m.left - a else m.seen)
        split <;> omega
      · show (if m.left - a < m.seen then m.left - a else m.seen) ≤ m.left - a
        split <;> omega
      · show m.left - a < 2 ^ 64
        omega
      · intro e
        have := h5 e
        show (if m.left - a < m.seen then m.left - a else m.seen) = m.left - a
        split <;> omega
  · rw [if_neg g1]
    by_cases g2 : c.guard = "old"
    · rw [if_pos g2]
      exact ⟨Int.le_of_lt hl, Int.le_refl _, by show 1 ≤ 3; omega, .inr rfl, .inl rfl, fun q => by cases q⟩
    · rw [if_neg g2]
      by_cases g3 : c.guard = "both"
      · rw [if_pos g3]
        exact ⟨Int.le_refl _, Int.le_of_lt hl, by show 2 ≤ 3; omega, .inr rfl, .inl rfl, fun q => by cases q⟩
      · rw [if_neg g3, if_pos (by rcases hg with e | e | e | e; exact absurd e g2; exact e; exact absurd e g3; exact absurd e g1)]
        exact ⟨Int.le_refl _, Int.le_of_lt hl, by show 1 ≤ 3; omega, .inl rfl, .inl rfl, fun _ => ⟨rfl, rfl⟩⟩
theorem trade_ok {m : Row} {c : Com} {left rank : Int} (ok : RowOk m) (hl : 0 < left) : StepOk m left (tradesM [m] c left rank) := by
  obtain ⟨h1, h2, h3, h4, h5, h6, h7⟩ := ok
  have es : sharesM left (seenOf [m]) = [if m.seen ≤ left then m.seen else left] := share_one (by omega) (by omega)
  unfold tradesM tradesOf
  rw [es]
  have a0 : 0 < (if m.seen ≤ left then m.seen else left) := by split <;> omega
  have a1 : (if m.seen ≤ left then m.seen else left) ≤ left := by split <;> omega
  have a2 : (if m.seen ≤ left then m.seen else left) ≤ m.seen := by split <;> omega
  have a3 : (if m.seen ≤ left then m.seen else left) = left ∨ (if m.seen ≤ left then m.seen else left) = m.seen := by split <;> omega
  generalize (if m.seen ≤ left then m.seen else left) = a at a0 a1 a2 a3
  have ez : (([m].zip [a]).filter fun p : Row × Int => decide (0 < p.2)) = [(m, a)] := by
    simp [a0]
  rw [ez]
  simp only [List.map_cons, List.map_nil, List.sum_cons, List.sum_nil, Int.add_zero]
  rw [anew_one]
  have hs : (seenM m a).seen = if m.seen - a > 0 then m.seen - a else 0 := rfl
  have hl' : (seenM m a).left = m.left - a := rfl
  by_cases z : m.seen - a > 0
  · rw [hs, if_pos z, if_pos z]
    have zl : left - a = 0 := by omega
    refine ⟨by show 0 ≤ left - a; omega, by show left - a ≤ left; omega, by show 1 ≤ 3; omega, .inr rfl, .inr ⟨_, rfl, ⟨?_, ?_, ?_, h4, ?_, h6, h7⟩, rfl, ?_, .inl zl⟩, fun q => by cases q⟩
    · rw [hs, if_pos z]; omega
    · rw [hs, if_pos z, hl']; omega
    · rw [hl']; omega
    · intro e
      have := h5 e
      rw [hs, if_pos z, hl']
      omega
    · unfold phi
      rw [hs, if_pos z, hl']
      show 1 + (match m.part with | none => 0 | some p => ((m.left - a - (m.seen - a) + p - 1) / p).toNat) ≤ _
      rw [show m.left - a - (m.seen - a) = m.left - m.seen by omega]
      exact Nat.le_refl _
  · rw [hs, if_neg z, if_neg (by omega), hl']
    have az : a = m.seen := by omega
    subst az
    by_cases z2 : m.left - m.seen > 0
    · rw [if_pos z2]
      obtain ⟨p, e⟩ : ∃ p, m.part = some p := by
        cases e : m.part with
        | none => have := h5 e; omega
        | some p => exact ⟨p, rfl⟩
      have hp := h4 p e
      have ep : partM (seenM m m.seen).part (m.left - m.seen) = if m.left - m.seen < p then m.left - m.seen else p := by
        show partM m.part _ = _
        rw [e]
        rfl
      have pz : phi { seenM m m.seen with seen := partM (seenM m m.seen).part (m.left - m.seen), rank := rank } + 1 ≤ phi m := by
        unfold phi
        show 1 + (match m.part with | none => 0 | some p => ((m.left - m.seen - partM (seenM m m.seen).part (m.left - m.seen) + p - 1) / p).toNat) + 1 ≤ 1 + (match m.part with | none => 0 | some p => ((m.left - m.seen + p - 1) / p).toNat)
        rw [ep, e]
        show 1 + ((m.left - m.seen - (if m.left - m.seen < p then m.left - m.seen else p) + p - 1) / p).toNat + 1 ≤ 1 + ((m.left - m.seen + p - 1) / p).toNat
        have q1 : (m.left - m.seen + p - 1) / p = (m.left - m.seen - 1) / p + 1 := by
          rw [show m.left - m.seen + p - 1 = (m.left - m.seen - 1) + p by omega, Int.add_ediv_of_dvd_right (Int.dvd_refl p), Int.ediv_self (by omega)]
        have q2 : 0 ≤ (m.left - m.seen - 1) / p := Int.ediv_nonneg (by omega) (by omega)
        rw [q1]
        split
        · rw [show m.left - m.seen - (m.left - m.seen) + p - 1 = p - 1 by omega, Int.ediv_eq_zero_of_lt (by omega) (by omega)]
          omega
        · rw [show m.left - m.seen - p + p - 1 = m.left - m.seen - 1 by omega]
          omega
      refine ⟨by show 0 ≤ left - m.seen; omega, by show left - m.seen ≤ left; omega, by show 2 ≤ 3; omega, .inr rfl, .inr ⟨_, rfl, ⟨?_, ?_, ?_, h4, ?_, h6, h7⟩, rfl, Nat.le_of_succ_le pz, .inr pz⟩, fun q => by cases q⟩
      · show 1 ≤ partM (seenM m m.seen).part (m.left - m.seen)
        rw [ep]
        split <;> omega
      · show partM (seenM m m.seen).part (m.left - m.seen) ≤ m.left - m.seen
        rw [ep]
        split <;> omega
      · show m.left - m.seen < 2 ^ 64
        omega
      · intro e'
        have e'' : m.part = none := e'
        rw [e] at e''
        cases e''
    · rw [if_neg z2]
      exact ⟨by show 0 ≤ left - m.seen; omega, by show left - m.seen ≤ left; omega, by show 1 ≤ 3; omega, .inr rfl, .inl rfl, fun q => by cases q⟩
theorem met_one {rows : List Row} {s : Str} {m : Row} {tl : List Row} (h : metM rows s "rank" = m :: tl) : tl = [] ∧ m ∈ rows := by
  unfold metM at h
  split at h
  · cases h
  · rw [if_neg (by decide +kernel)] at h
    have hm : m ∈ levelM rows s := by
      have : m ∈ (levelM rows s).take 1 := by rw [h]; exact List.mem_cons_self
      exact List.mem_of_mem_take this
    constructor
    · have := congrArg List.length h
      rw [List.length_take] at this
      simp only [List.length_cons] at this
      have : tl.length = 0 := by omega
      exact List.length_eq_zero_iff.mp this
    · unfold levelM at hm
      have h2 := List.mem_mergeSort.mp hm
      exact (List.mem_filter.mp (List.mem_filter.mp h2).1).1
theorem step_ok {rows : List Row} {c : Com} {left rank : Int} {m : Row} {tl : List Row} (hmet : metM rows (agM c.side) "rank" = m :: tl) (ok : ∀ r ∈ rows, RowOk r) (hl : 0 < left) (hg : GuardOk c.guard) : StepOk m left (stepM (metM rows (agM c.side) "rank") c left rank) := by
  obtain ⟨h1, h2⟩ := met_one hmet
  subst h1
  rw [hmet]
  unfold stepM
  by_cases q : m.who = c.who
  · rw [show [m].find? (fun r => decide (r.who = c.who)) = some m by simp [q]]
    exact own_ok (ok m h2) hl hg
  · rw [show [m].find? (fun r => decide (r.who = c.who)) = none by simp [q]]
    exact trade_ok (ok m h2) hl
/-- the state of a meeting by rank -/
structure MOk (B : Nat) (st : MSt) : Prop where
  rows : ∀ r ∈ st.rows, RowOk r
  len : st.rows.length ≤ B
  l0 : 0 ≤ st.left
  l1 : st.left < 2 ^ 64
  phi : Phi st.rows ≤ B
  ev : st.evts.length + 3 * Phi st.rows ≤ 3 * B + 3
  ev2 : 0 < st.left → st.evts.length + 3 * Phi st.rows ≤ 3 * B
def muM (st : MSt) : Nat := if 0 < st.left then Phi st.rows + 1 else 0
theorem phi_pos (r : Row) : 1 ≤ phi r := by unfold phi; omega
theorem next_ok {B : Nat} {c : Com} {st : MSt} {m : Row} {tl : List Row} (h : MOk B st) (hmet : metM st.rows (agM c.side) "rank" = m :: tl) (hl : 0 < st.left) (hg : GuardOk c.guard) : MOk B (nextM c "rank" st) ∧ muM (nextM c "rank" st) < muM st := by
  have hs := step_ok (rank := st.rank) hmet h.rows hl hg
  have hm := (met_one hmet).2
  have okm := h.rows m hm
  have e2 := h.ev2 hl
  have p1 := phi_pos m
  have e3 : muM st = Phi st.rows + 1 := by unfold muM; rw [if_pos hl]
  rw [e3]
  rw [show nextM c "rank" st = ⟨outM st.rows (stepM (metM st.rows (agM c.side) "rank") c st.left st.rank).out ++ (stepM (metM st.rows (agM c.side) "rank") c st.left st.rank).back, st.evts ++ (stepM (metM st.rows (agM c.side) "rank") c st.left st.rank).told, (stepM (metM st.rows (agM c.side) "rank") c st.left st.rank).left, (stepM (metM st.rows (agM c.side) "rank") c st.left st.rank).rank⟩ from rfl]
  generalize stepM (metM st.rows (agM c.side) "rank") c st.left st.rank = r at hs
  obtain ⟨l0, l1, ev, out, back, stay⟩ := hs
  have hP := Phi_out hm okm
  have hL := out_lt hm okm
  have okf : ∀ o, ∀ x ∈ outM st.rows o, RowOk x := fun o x hx => h.rows x (List.mem_filter.mp hx).1
  rcases out with eo | eo
  · obtain ⟨z1, z2⟩ := stay eo
    have eO : outM st.rows r.out ++ r.back = st.rows := by
      rw [eo, z2, List.append_nil]
      unfold outM
      simp
    refine ⟨⟨?_, ?_, ?_, ?_, ?_, ?_, ?_⟩, ?_⟩
    all_goals simp only [eO]
    · exact h.rows
    · exact h.len
    · omega
    · omega
    · exact h.phi
    · rw [List.length_append]; omega
    · intro q; omega
    · unfold muM
      rw [if_neg (by show ¬ 0 < r.left; omega)]
      omega
  · rw [eo]
    rcases back with eb | ⟨b, eb, okb, _, pb, pl⟩
    · rw [eb, List.append_nil]
      refine ⟨⟨okf _, by show (outM st.rows [m]).length ≤ B; have := h.len; omega, l0, by show r.left < 2 ^ 64; have := h.l1; omega, by show Phi (outM st.rows [m]) ≤ B; have := h.phi; omega, ?_, ?_⟩, ?_⟩
      · show (st.evts ++ r.told).length + 3 * Phi (outM st.rows [m]) ≤ _
        rw [List.length_append]; omega
      · intro _
        show (st.evts ++ r.told).length + 3 * Phi (outM st.rows [m]) ≤ _
        rw [List.length_append]; omega
      · unfold muM
        show (if 0 < r.left then Phi (outM st.rows [m]) + 1 else 0) < _
        split <;> omega
    · rw [eb]
      have hPb : Phi (outM st.rows [m] ++ [b]) = Phi (outM st.rows [m]) + phi b := by
        rw [Phi_app]
        show _ + (phi b + 0) = _
        rfl
      refine ⟨⟨fun x hx => ?_, by show (outM st.rows [m] ++ [b]).length ≤ B; rw [List.length_append]; have := h.len; show _ + 1 ≤ B; omega, l0, by show r.left < 2 ^ 64; have := h.l1; omega, by show Phi (outM st.rows [m] ++ [b]) ≤ B; rw [hPb]; have := h.phi; omega, ?_, ?_⟩, ?_⟩
      · rcases List.mem_append.mp hx with q | q
        · exact okf _ x q
        · rw [List.mem_singleton.mp q]; exact okb
      · show (st.evts ++ r.told).length + 3 * Phi (outM st.rows [m] ++ [b]) ≤ _
        rw [List.length_append, hPb]; omega
      · intro q
        have q : 0 < r.left := q
        show (st.evts ++ r.told).length + 3 * Phi (outM st.rows [m] ++ [b]) ≤ _
        rw [List.length_append, hPb]; omega
      · unfold muM
        show (if 0 < r.left then Phi (outM st.rows [m] ++ [b]) + 1 else 0) < _
        rw [hPb]
        split <;> omega

end
section
variable [Fam] [Tabz] {P : Program} {w : World} {K : PySem.W.Frag} {mg : Str → Option Value} {base : Heap}
local macro_rules | `(tactic| walk_at "d") => `(tactic| first | refine Or.inl ⟨_, rfl, ?_⟩ | refine ⟨Nat.le_of_ble_eq_true rfl, ?_⟩ | refine ⟨⟨_, rfl⟩, ?_⟩ | refine ⟨_, rfl, ?_⟩ | refine ⟨_, _, rfl, ?_⟩ | refine ⟨_, _, _, rfl, ?_⟩ | refine ⟨_, _, _, _, rfl, ?_⟩)
/-! ### plain_meet -/
theorem rows_lay : ∀ {rs : List Row}, (∀ r ∈ rs, RowOk r) → PyData.canLayAll0 (rs.map Row.dat) = true
  | [], _ => rfl
  | r :: rs, h => by
    show (PyData.canLay0 r.dat && PyData.canLayAll0 (rs.map Row.dat)) = true
    have h1 := h r List.mem_cons_self
    rw [Row.lay h1.2.2.2.2.2.1 h1.2.2.2.2.2.2, rows_lay fun x hx => h x (List.mem_cons_of_mem _ hx)]
    rfl
theorem Row.depth (r : Row) : r.dat.depth = 1 := by
  obtain ⟨num, who, side, price, part, left, seen, rank⟩ := r
  cases part <;> simp [Row.dat, datP, PyData.depth, PyData.depthAll]
theorem rows_depth : ∀ rs : List Row, PyData.depthAll (rs.map Row.dat) ≤ 1
  | [] => by show 0 ≤ 1; omega
  | r :: rs => by
    have := rows_depth rs
    simp only [List.map_cons, PyData.depthAll, Row.depth]
    omega
theorem Row.shaped {r : Row} (h : RowOk r) : SeqAt.shaped r.dat = true := by
  unfold SeqAt.shaped
  rw [Row.lay h.2.2.2.2.2.1 h.2.2.2.2.2.2, Row.depth]
  rfl
theorem rows_shaped {rs : List Row} (h : ∀ r ∈ rs, RowOk r) : SeqAt.shaped (.list (rs.map Row.dat)) = true := by
  have := rows_depth rs
  unfold SeqAt.shaped
  have e : (PyData.list (rs.map Row.dat)).canLay0 = true := by
    simp only [PyData.canLay0]
    exact rows_lay h
  rw [e, Bool.true_and]
  refine decide_eq_true ?_
  simp only [PyData.depth]
  omega
def meetRes (fin : MSt × Bool) : PyData := .tuple [dEvts fin.1.evts, dRows (rankM fin.1.rows), .int fin.1.left, .bool fin.2, .int fin.1.rank]
def mMeet : DM := fun rs n Q => ∃ (rows : List Row) (c : Com) (rank : Int) (band : Option Int) (anchorD : PyData) (a : Int) (B : Nat), rs = [.d (dRows rows), .d c.dat, .d (.int rank), .d (datP band), .d anchorD, .d (.str "rank")] ∧
  (band.isSome = true → anchorD = .int a) ∧ GuardOk c.guard ∧ B ≤ 1000 ∧ MOk B ⟨rows, [], c.left, rank⟩ ∧ ∀ k fin, meetF c band a "rank" k ⟨rows, [], c.left, rank⟩ = some fin → Q (.d (meetRes fin)) n
theorem L_plain_meet : ∀ rs n Q, mMeet rs n Q → plainR rs ∧ rs.length = 6 := by
  rintro rs n Q ⟨rows, c, rank, band, x, a, B, rfl, h⟩
  exact plainOf_R (ds := [_, _, _, _, _, _]) rfl
theorem in_ok {a : PyData} {ds : List PyData} (h1 : SeqAt.shaped a = true) (h2 : SeqAt.shaped (.list ds) = true) : opIn true a (.list ds) = some (.d (.bool (!ds.any fun z => PyData.eqv z a))) := if_pos ⟨h1, h2⟩
theorem any_dat (out : List Row) (d : PyData) : ((out.map Row.dat).any fun z => PyData.eqv z d) = out.any fun o => PyData.eqv o.dat d := by
  rw [List.any_map]
  rfl
abbrev s_plain_meet : Stmt := topS 12
theorem sc_plain_meet : FnScope ["rows", "coming", "rank", "band", "anchor", "rule", "side", "price", "left", "events", "halted", "met", "told", "out", "back", "row"] ["rows", "coming", "rank", "band", "anchor", "rule"] (defScope s_plain_meet) := ⟨rfl, rfl, rfl, by decide +kernel, rfl, by decide +kernel, by decide +kernel⟩

end
section
variable [Fam] [Tabz] {P : Program} {w : World} {K : PySem.W.Frag} {mg : Str → Option Value} {base : Heap}
/-! ### amounts times a number -/
def Row.times (b : Int) (r : Row) : Row := { r with part := r.part.map (· * b), left := r.left * b, seen := r.seen * b }
def Evt.times (b : Int) : Evt → Evt
  | .trade x y p a => .trade x y p (a * b)
  | .shown m n => .shown m (n * b)
  | .off m a => .off m (a * b)
  | .less r c a => .less r c (a * b)
def Res.times (b : Int) (r : Res) : Res := ⟨r.told.map (Evt.times b), r.out.map (Row.times b), r.back.map (Row.times b), r.left * b, r.rank⟩
def MSt.times (b : Int) (s : MSt) : MSt := ⟨s.rows.map (Row.times b), s.evts.map (Evt.times b), s.left * b, s.rank⟩
def Com.times (b : Int) (c : Com) : Com := { c with left := c.left * b }
section
variable {b : Int}
theorem lt_times (hb : 0 < b) {x y : Int} : x * b < y * b ↔ x < y := Int.mul_lt_mul_right hb
theorem le_times (hb : 0 < b) {x y : Int} : x * b ≤ y * b ↔ x ≤ y := Int.mul_le_mul_right hb
theorem pos_times (hb : 0 < b) {x : Int} : 0 < x * b ↔ 0 < x := by
  have := lt_times hb (x := 0) (y := x)
  rwa [Int.zero_mul] at this
theorem inj_times (hb : 0 < b) {x y : Int} (h : x * b = y * b) : x = y := Int.eq_of_mul_eq_mul_right (by omega) h
theorem min_times (hb : 0 < b) (x y : Int) : minM (x * b) (y * b) = minM x y * b := by
  unfold minM
  by_cases q : y < x
  · rw [if_pos q, if_pos ((lt_times hb).mpr q)]
  · rw [if_neg q, if_neg (fun z => q ((lt_times hb).mp z))]
theorem part_times (hb : 0 < b) (p : Option Int) (l : Int) : partM (p.map (· * b)) (l * b) = partM p l * b := by
  cases p with
  | none => rfl
  | some p =>
    show (if l * b < p * b then l * b else p * b) = (if l < p then l else p) * b
    by_cases q : l < p
    · rw [if_pos q, if_pos ((lt_times hb).mpr q)]
    · rw [if_neg q, if_neg (fun z => q ((lt_times hb).mp z))]
theorem hid_times (hb : 0 < b) (r : Row) (a : Int) : hidM (r.times b) (a * b) = (hidM r a).times b := by
  unfold hidM Row.times
  simp only [← Int.sub_mul]
  congr 1
  by_cases q : r.left - a < r.seen
  · rw [if_pos q, if_pos ((lt_times hb).mpr q)]
  · rw [if_neg q, if_neg (fun z => q ((lt_times hb).mp z))]
theorem seen_times (hb : 0 < b) (r : Row) (a : Int) : seenM (r.times b) (a * b) = (seenM r a).times b := by
  unfold seenM Row.times
  simp only [← Int.sub_mul]
  congr 1
  by_cases q : r.seen - a > 0
  · rw [if_pos q, if_pos ((pos_times hb).mpr q)]
  · rw [if_neg q, if_neg (fun z => q ((pos_times hb).mp z)), Int.zero_mul]
theorem anew_times (hb : 0 < b) (r : Row) (k : Int) : anewM [r.times b] k = ((anewM [r] k).1.map (Evt.times b), (anewM [r] k).2.1.map (Row.times b), (anewM [r] k).2.2) := by
  rw [anew_one, anew_one]
  have e1 : (r.times b).seen = r.seen * b := rfl
  have e2 : (r.times b).left = r.left * b := rfl
  have e3 : (r.times b).part = r.part.map (· * b) := rfl
  rw [e1, e2, e3, part_times hb]
  by_cases q : r.seen > 0
  · rw [if_pos q, if_pos ((pos_times hb).mpr q)]
    rfl
  · rw [if_neg q, if_neg (fun z => q ((pos_times hb).mp z))]
    by_cases q2 : r.left > 0
    · rw [if_pos q2, if_pos ((pos_times hb).mpr q2)]
      rfl
    · rw [if_neg q2, if_neg (fun z => q2 ((pos_times hb).mp z))]
      rfl
theorem own_times (hb : 0 < b) (m : Row) (c : Com) (left rank : Int) : ownM (m.times b) (c.times b) (left * b) rank = (ownM m c left rank).times b := by
  have e1 : (m.times b).left = m.left * b := rfl
  have e2 : (c.times b).guard = c.guard := rfl
  unfold ownM
  rw [e1, e2, min_times hb, hid_times hb, anew_times hb, ← Int.sub_mul]
  unfold Res.times
  split
  · rfl
  · split
    · rfl
    · split
      · simp [Evt.times, Row.times, Com.times]
      · split
        · simp [Evt.times, Row.times, Com.times]
        · rfl
theorem trades_times (hb : 0 < b) {m : Row} (ok : RowOk m) (c : Com) {left : Int} (hl : 0 < left) (rank : Int) : tradesM [m.times b] (c.times b) (left * b) rank = (tradesM [m] c left rank).times b := by
  have s1 : sharesM left (seenOf [m]) = [if m.seen ≤ left then m.seen else left] := share_one (by have := ok.1; omega) (by omega)
  have s2 : sharesM (left * b) (seenOf [m.times b]) = [(if m.seen ≤ left then m.seen else left) * b] := by
    have := share_one (left := left * b) (seen := m.seen * b) ((pos_times hb).mpr (by have := ok.1; omega)) (Int.le_of_lt ((pos_times hb).mpr hl))
    rw [show seenOf [m.times b] = [m.seen * b] from rfl, this]
    by_cases q : m.seen ≤ left
    · rw [if_pos q, if_pos ((le_times hb).mpr q)]
    · rw [if_neg q, if_neg (fun z => q ((le_times hb).mp z))]
  have a0 : 0 < (if m.seen ≤ left then m.seen else left) := by have := ok.1; split <;> omega
  unfold tradesM tradesOf
  rw [s1, s2]
  generalize (if m.seen ≤ left then m.seen else left) = a at a0
  have z1 : (([m].zip [a]).filter fun p : Row × Int => decide (0 < p.2)) = [(m, a)] := by simp [a0]
  have z2 : (([m.times b].zip [a * b]).filter fun p : Row × Int => decide (0 < p.2)) = [(m.times b, a * b)] := by
    have := (pos_times hb).mpr a0
    simp [this]
  rw [z1, z2]
  simp only [List.map_cons, List.map_nil, List.sum_cons, List.sum_nil, Int.add_zero]
  rw [seen_times hb, anew_times hb, ← Int.sub_mul]
  unfold Res.times tradeE
  have e2 : (c.times b).side = c.side := rfl
  rw [e2]
  by_cases q : c.side = "buy"
  · simp only [if_pos q]
    rfl
  · simp only [if_neg q]
    rfl
theorem step_times (hb : 0 < b) {m : Row} (ok : RowOk m) (c : Com) {left : Int} (hl : 0 < left) (rank : Int) : stepM [m.times b] (c.times b) (left * b) rank = (stepM [m] c left rank).times b := by
  unfold stepM
  have e : (m.times b).who = m.who := rfl
  have e2 : (c.times b).who = c.who := rfl
  by_cases q : m.who = c.who
  · rw [show [m].find? (fun r => decide (r.who = c.who)) = some m by simp [q], show [m.times b].find? (fun r => decide (r.who = (c.times b).who)) = some (m.times b) by simp [e, e2, q]]
    exact own_times hb m c left rank
  · rw [show [m].find? (fun r => decide (r.who = c.who)) = none by simp [q], show [m.times b].find? (fun r => decide (r.who = (c.times b).who)) = none by simp [e, e2, q]]
    exact trades_times hb ok c hl rank
theorem side_times (rows : List Row) (s : Str) : sideM (rows.map (Row.times b)) s = (sideM rows s).map (Row.times b) := by
  unfold sideM
  rw [List.filter_map]
  rfl
theorem met_times (rows : List Row) (s rule : Str) : metM (rows.map (Row.times b)) s rule = (metM rows s rule).map (Row.times b) := by
  have el : levelM (rows.map (Row.times b)) s = (levelM rows s).map (Row.times b) := by
    unfold levelM
    rw [side_times, List.map_map, show (Row.price ∘ Row.times b) = Row.price from rfl, List.filter_map, List.map_mergeSort (s := leRank)]
    · rfl
    · intro x _ y _
      rfl
  unfold metM
  rw [side_times, el]
  have e0 : ((sideM rows s).map (Row.times b)).isEmpty = (sideM rows s).isEmpty := by
    cases sideM rows s <;> rfl
  rw [e0]
  split
  · rfl
  · split
    · rfl
    · rw [List.map_take]
theorem rank_times (rows : List Row) : rankM (rows.map (Row.times b)) = (rankM rows).map (Row.times b) := by
  unfold rankM
  rw [side_times, side_times, List.map_append, List.map_mergeSort (s := leRow true), List.map_mergeSort (s := leRow false)]
  · intro x _ y _
    rfl
  · intro x _ y _
    rfl
theorem eqv_row (o r : Row) : PyData.eqv o.dat r.dat = true ↔ o = r := by
  obtain ⟨n1, w1, s1, p1, q1, l1, e1, k1⟩ := o
  obtain ⟨n2, w2, s2, p2, q2, l2, e2, k2⟩ := r
  cases q1 <;> cases q2 <;> simp [Row.dat, datP, PyData.eqv, PyData.eqvAll]
theorem row_inj (hb : 0 < b) {o r : Row} (h : o.times b = r.times b) : o = r := by
  obtain ⟨n1, w1, s1, p1, q1, l1, e1, k1⟩ := o
  obtain ⟨n2, w2, s2, p2, q2, l2, e2, k2⟩ := r
  unfold Row.times at h
  simp only [Row.mk.injEq] at h ⊢
  obtain ⟨a1, a2, a3, a4, a5, a6, a7, a8⟩ := h
  refine ⟨a1, a2, a3, a4, ?_, inj_times hb a6, inj_times hb a7, a8⟩
  cases q1 <;> cases q2 <;> simp at a5 ⊢
  exact inj_times hb a5
theorem out_times (hb : 0 < b) (rows out : List Row) : outM (rows.map (Row.times b)) (out.map (Row.times b)) = (outM rows out).map (Row.times b) := by
  unfold outM
  rw [List.filter_map]
  congr 2
  funext r
  show (!((out.map (Row.times b)).any fun o => PyData.eqv o.dat (r.times b).dat)) = _
  rw [List.any_map]
  congr 2
  funext o
  show PyData.eqv (o.times b).dat (r.times b).dat = PyData.eqv o.dat r.dat
  rw [Bool.eq_iff_iff, eqv_row, eqv_row]
  exact ⟨row_inj hb, fun z => by rw [z]⟩
theorem next_times (hb : 0 < b) {c : Com} {st : MSt} {m : Row} {tl : List Row} (hmet : metM st.rows (agM c.side) "rank" = m :: tl) (ok : ∀ r ∈ st.rows, RowOk r) (hl : 0 < st.left) : nextM (c.times b) "rank" (st.times b) = (nextM c "rank" st).times b := by
  obtain ⟨z, hm⟩ := met_one hmet
  subst z
  unfold nextM
  have e1 : (st.times b).rows = st.rows.map (Row.times b) := rfl
  have e2 : (c.times b).side = c.side := rfl
  have e3 : (st.times b).left = st.left * b := rfl
  have e4 : (st.times b).rank = st.rank := rfl
  have e5 : (st.times b).evts = st.evts.map (Evt.times b) := rfl
  rw [e1, e2, e3, e4, e5, met_times, hmet, List.map_cons, List.map_nil, step_times hb (ok m hm) c hl]
  generalize stepM [m] c st.left st.rank = r
  show MSt.mk (outM (st.rows.map (Row.times b)) (r.out.map (Row.times b)) ++ r.back.map (Row.times b)) (st.evts.map (Evt.times b) ++ r.told.map (Evt.times b)) (r.left * b) r.rank = _
  rw [out_times hb, ← List.map_append, ← List.map_append]
  rfl
theorem meet_times (hb : 0 < b) {B : Nat} {c : Com} (hg : GuardOk c.guard) (band : Option Int) (a : Int) : ∀ (k : Nat) (st : MSt), MOk B st → meetF (c.times b) band a "rank" k (st.times b) = (meetF c band a "rank" k st).map fun f => (f.1.times b, f.2)
  | 0, _, _ => rfl
  | k + 1, st, ok => by
    have e1 : (st.times b).rows = st.rows.map (Row.times b) := rfl
    have e3 : (st.times b).left = st.left * b := rfl
    unfold meetF
    rw [e1, e3, show (c.times b).side = c.side from rfl, show (c.times b).price = c.price from rfl, met_times]
    by_cases q : 0 < st.left
    · rw [if_pos q, if_pos ((pos_times hb).mpr q)]
      cases hmet : metM st.rows (agM c.side) "rank" with
      | nil => rfl
      | cons m tl =>
        show (if letsM c.price c.side m.price = true then (if farM m.price band a = true then some (st.times b, true) else meetF (c.times b) band a "rank" k (nextM (c.times b) "rank" (st.times b))) else some (st.times b, false)) = _
        dsimp only
        split
        · split
          · rfl
          · rw [next_times hb hmet ok.rows q]
            exact meet_times hb hg band a k _ (next_ok ok hmet q hg).1
        · rfl
    · rw [if_neg q, if_neg (fun z => q ((pos_times hb).mp z))]
      rfl
end
theorem meet_more {c : Com} {band : Option Int} {a : Int} {rule : Str} : ∀ {k j : Nat} {st : MSt} {fin : MSt × Bool}, meetF c band a rule k st = some fin → k ≤ j → meetF c band a rule j st = some fin
  | 0, _, _, _, h, _ => by cases h
  | k + 1, 0, _, _, _, h => by omega
  | k + 1, j + 1, st, fin, h, hj => by
    unfold meetF at h ⊢
    by_cases q : 0 < st.left
    · rw [if_pos q] at h ⊢
      split at h
      · exact h
      · split at h
        · rename_i q1
          rw [if_pos q1]
          split at h
          · rename_i q2
            rw [if_pos q2]
            exact h
          · rename_i q2
            rw [if_neg q2]
            exact meet_more h (by omega)
        · rename_i q1
          rw [if_neg q1]
          exact h
    · rw [if_neg q] at h ⊢
      exact h
theorem meet_same {c : Com} {band : Option Int} {a : Int} {rule : Str} {k j : Nat} {st : MSt} {f g : MSt × Bool} (h1 : meetF c band a rule k st = some f) (h2 : meetF c band a rule j st = some g) : f = g := by
  have e1 := meet_more h1 (Nat.le_max_left k j)
  have e2 := meet_more h2 (Nat.le_max_right k j)
  rw [e1] at e2
  exact Option.some.inj e2

end
section
variable [Fam] [Tabz] {P : Program} {w : World} {K : PySem.W.Frag} {mg : Str → Option Value} {base : Heap}
/-! ### meetings by either rule: shares -/
theorem idx_sum : ∀ (xs : List Int) (d : Int), d ≤ xs.length → (xs.mapIdx fun i p => if (i : Int) < d then p + 1 else p).sum = xs.sum + (if 0 < d then d else 0)
  | [], d, h => by
    have : ¬ 0 < d := by simp at h; omega
    simp [this]
  | x :: xs, d, h => by
    rw [List.mapIdx_cons]
    have e : (xs.mapIdx fun i p => if ((i + 1 : Nat) : Int) < d then p + 1 else p) = xs.mapIdx fun i p => if (i : Int) < d - 1 then p + 1 else p := by
      congr 1
      funext i p
      by_cases q : (i : Int) < d - 1
      · rw [if_pos q, if_pos (by omega)]
      · rw [if_neg q, if_neg (by omega)]
    have ih := idx_sum xs (d - 1) (by simp only [List.length_cons] at h; omega)
    simp only [List.sum_cons]
    rw [e, ih]
    by_cases q : 0 < d
    · rw [if_pos (show ((0 : Nat) : Int) < d from q), if_pos q]
      split <;> omega
    · rw [if_neg (show ¬ ((0 : Nat) : Int) < d from q), if_neg q, if_neg (by omega)]
      omega
theorem mul_sum (b : Int) : ∀ xs : List Int, (xs.map fun x => b * x).sum = b * xs.sum
  | [] => by simp
  | x :: xs => by
    simp only [List.map_cons, List.sum_cons]
    rw [mul_sum b xs, Int.mul_add]
theorem floor_sum {left S : Int} (hS : 0 < S) : ∀ xs : List Int, S * (xs.map fun p => left * p / S).sum ≤ left * xs.sum ∧ left * xs.sum ≤ S * (xs.map fun p => left * p / S).sum + (S - 1) * xs.length
  | [] => by simp
  | x :: xs => by
    have ih := floor_sum (left := left) hS xs
    have h1 : S * (left * x / S) ≤ left * x := Int.mul_ediv_self_le (by omega)
    have h2 : left * x < S * (left * x / S) + S := Int.lt_mul_ediv_self_add hS
    simp only [List.map_cons, List.sum_cons, List.length_cons]
    rw [Int.mul_add, Int.mul_add]
    have e : (S - 1) * ((xs.length + 1 : Nat) : Int) = (S - 1) * (xs.length : Int) + (S - 1) := by
      rw [Int.natCast_add, Int.mul_add]
      simp
    rw [e]
    omega
theorem sum_pos {xs : List Int} (h : ∀ x ∈ xs, 1 ≤ x) : 0 ≤ xs.sum ∧ (xs ≠ [] → 0 < xs.sum) := by
  induction xs with
  | nil => exact ⟨by simp, fun z => absurd rfl z⟩
  | cons x xs ih =>
    have h1 := h x List.mem_cons_self
    have h2 := (ih fun y hy => h y (List.mem_cons_of_mem _ hy)).1
    simp only [List.sum_cons]
    exact ⟨by omega, fun _ => by omega⟩
structure SharesOk (left : Int) (seen am : List Int) : Prop where
  len : am.length = seen.length
  le : ∀ (i : Nat) (a s : Int), am[i]? = some a → seen[i]? = some s → 0 ≤ a ∧ a ≤ s
  all : seen.sum ≤ left → am = seen
  sum : am.sum ≤ left
  full : left < seen.sum → am.sum = left
theorem shares_ok {left : Int} {seen : List Int} (hl : 0 ≤ left) (hs : ∀ x ∈ seen, 1 ≤ x) : SharesOk left seen (sharesM left seen) := by
  have hlen := shares_len left seen
  unfold sharesM at hlen ⊢
  by_cases q : seen.sum ≤ left
  · rw [if_pos q]
    exact ⟨rfl, fun i a s h1 h2 => by
      rw [h1] at h2
      cases h2
      have := hs a (List.mem_of_getElem? h1)
      omega, fun _ => rfl, q, fun z => absurd q (by omega)⟩
  · rw [if_neg q] at hlen ⊢
    have hS : 0 < seen.sum := by omega
    have hne : seen ≠ [] := fun z => by rw [z] at hS; simp at hS
    have hk : 0 < seen.length := List.length_pos_iff.mpr hne
    obtain ⟨f1, f2⟩ := floor_sum (left := left) hS seen
    generalize hF : (seen.map fun p => left * p / seen.sum).sum = F at *
    have g1 : F ≤ left := by
      have : seen.sum * F ≤ seen.sum * left := by rw [Int.mul_comm seen.sum left]; exact f1
      exact Int.le_of_mul_le_mul_left this hS
    have g2 : left - F < seen.length := by
      apply Classical.byContradiction
      intro z
      have z : (seen.length : Int) ≤ left - F := by omega
      have h1 : seen.sum * (seen.length : Int) ≤ seen.sum * (left - F) := Int.mul_le_mul_of_nonneg_left z (by omega)
      rw [Int.mul_sub] at h1
      rw [Int.mul_comm left seen.sum] at f2
      have h2 : (seen.sum - 1) * (seen.length : Int) = seen.sum * seen.length - seen.length := by rw [Int.sub_mul]; simp
      omega
    have hsum := idx_sum (seen.map fun p => left * p / seen.sum) (left - F) (by rw [List.length_map]; omega)
    rw [hF] at hsum
    have hsum2 : ((seen.map fun p => left * p / seen.sum).mapIdx fun i p => if (i : Int) < left - F then p + 1 else p).sum = left := by
      rw [hsum]
      split <;> omega
    refine ⟨hlen, fun i a s h1 h2 => ?_, fun z => absurd z q, by rw [hsum2]; exact Int.le_refl _, fun _ => hsum2⟩
    rw [List.getElem?_mapIdx, List.getElem?_map, h2] at h1
    have h1' : some (if (i : Int) < left - F then left * s / seen.sum + 1 else left * s / seen.sum) = some a := h1
    cases h1'
    have s1 := hs s (List.mem_of_getElem? h2)
    have p0 : 0 ≤ left * s / seen.sum := Int.ediv_nonneg (Int.mul_nonneg hl (by omega)) (by omega)
    have p1 : left * s / seen.sum < s := by
      refine Int.ediv_lt_of_lt_mul hS ?_
      rw [Int.mul_comm s]
      exact Int.mul_lt_mul_of_pos_right (by omega) (by omega)
    split <;> omega
/-! ### meetings by either rule: what is traded -/
structure PairOk (p : Row × Int) : Prop where
  ok : RowOk p.1
  a0 : 0 < p.2
  a1 : p.2 ≤ p.1.seen
def AnewOk (ps : List (Row × Int)) (s : Nat) (back : List Row) : Prop := (∀ b ∈ back, RowOk b) ∧ back.length ≤ ps.length ∧ s + Phi back ≤ Phi (ps.map Prod.fst) ∧ ((∀ p ∈ ps, p.2 = p.1.seen) → ps.length + Phi back ≤ Phi (ps.map Prod.fst))
theorem anew_all : ∀ (ps : List (Row × Int)) (a : List Evt × List Row × Int), (∀ p ∈ ps, PairOk p) → ∃ (sh : List Evt) (back : List Row) (k : Int), (ps.map fun p => seenM p.1 p.2).foldl anewS a = (a.1 ++ sh, a.2.1 ++ back, k) ∧ AnewOk ps sh.length back
  | [], a, _ => ⟨[], [], a.2.2, by simp, fun b hb => (by cases hb), Nat.le_refl _, Nat.le_refl _, fun _ => Nat.le_refl _⟩
  | p :: ps, a, h => by
    obtain ⟨m, x⟩ := p
    obtain ⟨okm, a0, a1⟩ := h (m, x) List.mem_cons_self
    have okm2 : RowOk m := okm
    obtain ⟨h1, h2, h3, h4, h5, h6, h7⟩ := okm2
    have a0 : 0 < x := a0
    have a1 : x ≤ m.seen := a1
    obtain ⟨sh, back, k, e, b1, b2, b3, b4⟩ := anew_all ps (anewS a (seenM m x)) fun p hp => h p (List.mem_cons_of_mem _ hp)
    have PhiC : Phi ((m, x) :: ps |>.map Prod.fst) = phi m + Phi (ps.map Prod.fst) := rfl
    rw [List.map_cons, List.foldl_cons]
    rw [e]
    have hs : (seenM m x).seen = if m.seen - x > 0 then m.seen - x else 0 := rfl
    have hl' : (seenM m x).left = m.left - x := rfl
    by_cases z : m.seen - x > 0
    · have e1 : anewS a (seenM m x) = (a.1, a.2.1 ++ [seenM m x], a.2.2) := by
        unfold anewS
        rw [if_pos (by rw [hs, if_pos z]; exact z)]
      have pz : phi (seenM m x) ≤ phi m := by
        unfold phi
        rw [hs, if_pos z, hl']
        show 1 + (match m.part with | none => 0 | some p => ((m.left - x - (m.seen - x) + p - 1) / p).toNat) ≤ _
        rw [show m.left - x - (m.seen - x) = m.left - m.seen by omega]
        exact Nat.le_refl _
      have okb : RowOk (seenM m x) := by
        refine ⟨?_, ?_, ?_, h4, ?_, h6, h7⟩
        · rw [hs, if_pos z]; omega
        · rw [hs, if_pos z, hl']; omega
        · rw [hl']; omega
        · intro e
          have := h5 e
          rw [hs, if_pos z, hl']
          omega
      rw [e1]
      refine ⟨sh, seenM m x :: back, k, by simp, fun b hb => ?_, by show back.length + 1 ≤ ps.length + 1; omega, ?_, fun hall => ?_⟩
      · rcases List.mem_cons.mp hb with e | e
        · rw [e]; exact okb
        · exact b1 b e
      · rw [PhiC]
        show sh.length + (phi (seenM m x) + Phi back) ≤ _
        omega
      · have : x = m.seen := hall (m, x) List.mem_cons_self
        omega
    · have az : x = m.seen := by omega
      subst az
      by_cases z2 : m.left - m.seen > 0
      · obtain ⟨p, ep⟩ : ∃ p, m.part = some p := by
          cases e : m.part with
          | none => have := h5 e; omega
          | some p => exact ⟨p, rfl⟩
        have hp := h4 p ep
        have epart : partM (seenM m m.seen).part (m.left - m.seen) = if m.left - m.seen < p then m.left - m.seen else p := by
          show partM m.part _ = _
          rw [ep]
          rfl
        have e1 : anewS a (seenM m m.seen) = (a.1 ++ [.shown m.num (partM (seenM m m.seen).part (m.left - m.seen))], a.2.1 ++ [{ seenM m m.seen with seen := partM (seenM m m.seen).part (m.left - m.seen), rank := a.2.2 }], a.2.2 + 1) := by
          unfold anewS
          rw [if_neg (by rw [hs, if_neg z]; omega), if_pos (by rw [hl']; exact z2)]
          rfl
        have pz : ∀ rk, phi { seenM m m.seen with seen := partM (seenM m m.seen).part (m.left - m.seen), rank := rk } + 1 ≤ phi m := by
          intro rk
          unfold phi
          show 1 + (match m.part with | none => 0 | some p => ((m.left - m.seen - partM (seenM m m.seen).part (m.left - m.seen) + p - 1) / p).toNat) + 1 ≤ 1 + (match m.part with | none => 0 | some p => ((m.left - m.seen + p - 1) / p).toNat)
          rw [epart, ep]
          show 1 + ((m.left - m.seen - (if m.left - m.seen < p then m.left - m.seen else p) + p - 1) / p).toNat + 1 ≤ 1 + ((m.left - m.seen + p - 1) / p).toNat
          have q1 : (m.left - m.seen + p - 1) / p = (m.left - m.seen - 1) / p + 1 := by
            rw [show m.left - m.seen + p - 1 = (m.left - m.seen - 1) + p by omega, Int.add_ediv_of_dvd_right (Int.dvd_refl p), Int.ediv_self (by omega)]
          have q2 : 0 ≤ (m.left - m.seen - 1) / p := Int.ediv_nonneg (by omega) (by omega)
          rw [q1]
          split
          · rw [show m.left - m.seen - (m.left - m.seen) + p - 1 = p - 1 by omega, Int.ediv_eq_zero_of_lt (by omega) (by omega)]
            omega
          · rw [show m.left - m.seen - p + p - 1 = m.left - m.seen - 1 by omega]
            omega
        have okb : ∀ rk, RowOk { seenM m m.seen with seen := partM (seenM m m.seen).part (m.left - m.seen), rank := rk } := by
          intro rk
          refine ⟨?_, ?_, ?_, h4, ?_, h6, h7⟩
          · show 1 ≤ partM (seenM m m.seen).part (m.left - m.seen)
            rw [epart]
            split <;> omega
          · show partM (seenM m m.seen).part (m.left - m.seen) ≤ m.left - m.seen
            rw [epart]
            split <;> omega
          · show m.left - m.seen < 2 ^ 64
            omega
          · intro e'
            have e'' : m.part = none := e'
            rw [ep] at e''
            cases e''
        have pz' := pz a.2.2
        have okb' := okb a.2.2
        rw [e1]
        generalize ({ seenM m m.seen with seen := partM (seenM m m.seen).part (m.left - m.seen), rank := a.2.2 } : Row) = nb at pz' okb'
        refine ⟨_ :: sh, nb :: back, k, by simp; rfl, fun b hb => ?_, by show back.length + 1 ≤ ps.length + 1; omega, ?_, fun hall => ?_⟩
        · rcases List.mem_cons.mp hb with e | e
          · rw [e]; exact okb'
          · exact b1 b e
        · rw [PhiC]
          show sh.length + 1 + (phi nb + Phi back) ≤ _
          omega
        · have := b4 fun p hp => hall p (List.mem_cons_of_mem _ hp)
          rw [PhiC]
          show ps.length + 1 + (phi nb + Phi back) ≤ _
          omega
      · have e1 : anewS a (seenM m m.seen) = a := by
          unfold anewS
          rw [if_neg (by rw [hs, if_neg z]; omega), if_neg (by rw [hl']; exact z2)]
        have pm := phi_pos m
        rw [e1]
        refine ⟨sh, back, k, rfl, b1, by show back.length ≤ ps.length + 1; omega, ?_, fun hall => ?_⟩
        · rw [PhiC]; omega
        · have := b4 fun p hp => hall p (List.mem_cons_of_mem _ hp)
          rw [PhiC]
          show ps.length + 1 + Phi back ≤ _
          omega

end
section
variable [Fam] [Tabz] {P : Program} {w : World} {K : PySem.W.Frag} {mg : Str → Option Value} {base : Heap}
/-! ### meetings by either rule: a step -/
theorem Phi_sub {a b : List Row} (h : a.Sublist b) : Phi a ≤ Phi b := by
  induction h with
  | slnil => exact Nat.le_refl _
  | cons x _ ih => show _ ≤ phi x + Phi _; omega
  | cons_cons x _ ih => show phi x + Phi _ ≤ phi x + Phi _; omega
theorem Phi_permA {a b : List Row} (p : a.Perm b) : Phi a = Phi b := by
  unfold Phi
  induction p with
  | nil => rfl
  | cons x _ ih => simp only [List.map_cons, List.sum_cons, ih]
  | swap x y l => simp only [List.map_cons, List.sum_cons]; omega
  | trans _ _ h1 h2 => exact h1.trans h2
structure StepA (ms : List Row) (left : Int) (r : Res) : Prop where
  l0 : 0 ≤ r.left
  l1 : r.left ≤ left
  sub : r.out.Sublist ms
  back : ∀ b ∈ r.back, RowOk b
  blen : r.back.length ≤ r.out.length
  pot0 : Phi r.back ≤ Phi r.out
  pot : 0 < r.left → r.told.length + 3 * Phi r.back ≤ 3 * Phi r.out ∧ Phi r.back + 1 ≤ Phi r.out
  pote : r.told.length + 3 * Phi r.back ≤ 3 * Phi r.out + Phi ms + 3
theorem own_A {ms : List Row} {m : Row} {left : Int} {r : Res} (h : StepOk m left r) (hm : m ∈ ms) : StepA ms left r := by
  obtain ⟨l0, l1, ev, out, back, stay⟩ := h
  have pm := phi_pos m
  have P1 : ∀ x : Row, Phi [x] = phi x := fun x => Nat.add_zero _
  rcases out with eo | eo
  · obtain ⟨z1, z2⟩ := stay eo
    rw [show r = ⟨r.told, r.out, r.back, r.left, r.rank⟩ from rfl, eo, z2]
    refine ⟨l0, l1, List.nil_sublist _, fun b hb => (by cases hb), Nat.le_refl _, Nat.le_refl _, fun q => ?_, ?_⟩
    · have q : 0 < r.left := q
      omega
    · show r.told.length + 3 * 0 ≤ 3 * 0 + Phi ms + 3
      omega
  · rcases back with eb | ⟨b, eb, okb, _, pb, pl⟩
    · rw [show r = ⟨r.told, r.out, r.back, r.left, r.rank⟩ from rfl, eo, eb]
      refine ⟨l0, l1, List.singleton_sublist.mpr hm, fun b hb => (by cases hb), Nat.zero_le _, Nat.zero_le _, fun q => ⟨?_, ?_⟩, ?_⟩
      · show r.told.length + 3 * 0 ≤ 3 * Phi [m]
        rw [P1]; omega
      · show 0 + 1 ≤ Phi [m]
        rw [P1]; omega
      · show r.told.length + 3 * 0 ≤ 3 * Phi [m] + Phi ms + 3
        omega
    · rw [show r = ⟨r.told, r.out, r.back, r.left, r.rank⟩ from rfl, eo, eb]
      refine ⟨l0, l1, List.singleton_sublist.mpr hm, fun x hx => ?_, Nat.le_refl _, ?_, fun q => ?_, ?_⟩
      · rw [List.mem_singleton.mp hx]; exact okb
      · show Phi [b] ≤ Phi [m]
        rw [P1, P1]; exact pb
      · have q : 0 < r.left := q
        show r.told.length + 3 * Phi [b] ≤ 3 * Phi [m] ∧ Phi [b] + 1 ≤ Phi [m]
        rw [P1, P1]
        omega
      · show r.told.length + 3 * Phi [b] ≤ 3 * Phi [m] + Phi ms + 3
        rw [P1, P1]
        omega
theorem trades_A {ms : List Row} {c : Com} {left rank : Int} (ok : ∀ r ∈ ms, RowOk r) (hne : ms ≠ []) (hl : 0 < left) : StepA ms left (tradesM ms c left rank) := by
  have hseen : ∀ x ∈ seenOf ms, 1 ≤ x := fun x hx => by
    obtain ⟨r, hr, rfl⟩ := List.mem_map.mp hx
    exact (ok r hr).1
  have S := shares_ok (left := left) (by omega) hseen
  have hlen : (sharesM left (seenOf ms)).length = ms.length := by rw [S.len]; exact List.length_map _
  unfold tradesM
  generalize sharesM left (seenOf ms) = am at S hlen ⊢
  have hp : ∀ p ∈ tradesOf ms am, PairOk p ∧ (seenOf ms = am → p.2 = p.1.seen) := fun p hp => by
    obtain ⟨h1, h2⟩ := List.mem_filter.mp hp
    have h2 : 0 < p.2 := of_decide_eq_true h2
    obtain ⟨i, hi⟩ := List.mem_iff_getElem?.mp h1
    obtain ⟨g1, g2⟩ := List.getElem?_zip_eq_some.mp hi
    have g3 : (seenOf ms)[i]? = some p.1.seen := by
      unfold seenOf
      rw [List.getElem?_map, g1]
      rfl
    have g4 := S.le i p.2 p.1.seen g2 g3
    refine ⟨⟨ok p.1 (List.mem_of_getElem? g1), h2, g4.2⟩, fun e => ?_⟩
    rw [e, g2] at g3
    exact Option.some.inj g3
  have hsub : ((tradesOf ms am).map Prod.fst).Sublist ms := by
    have e : (ms.zip am).map Prod.fst = ms := List.map_fst_zip (by omega)
    have := (List.filter_sublist (l := ms.zip am) (p := fun p : Row × Int => decide (0 < p.2))).map Prod.fst
    rw [e] at this
    exact this
  have hfull : seenOf ms = am → tradesOf ms am ≠ [] := fun e z => by
    obtain ⟨m, hm⟩ := List.exists_mem_of_ne_nil ms hne
    obtain ⟨i, hi⟩ := List.mem_iff_getElem?.mp hm
    have g3 : am[i]? = some m.seen := by
      rw [← e]
      unfold seenOf
      rw [List.getElem?_map, hi]
      rfl
    have g4 : (m, m.seen) ∈ tradesOf ms am := List.mem_filter.mpr ⟨List.mem_iff_getElem?.mpr ⟨i, List.getElem?_zip_eq_some.mpr ⟨hi, g3⟩⟩, decide_eq_true (by have := (ok m hm).1; show 0 < m.seen; omega)⟩
    rw [z] at g4
    cases g4
  generalize tradesOf ms am = ps at hp hsub hfull ⊢
  obtain ⟨sh, back, k, e, b1, b2, b3, b4⟩ := anew_all ps ([], [], rank) fun p h => (hp p h).1
  have e' : anewM (ps.map fun p => seenM p.1 p.2) rank = (sh, back, k) := by
    unfold anewM
    rw [e]
    simp
  simp only [e']
  have hPs := Phi_sub hsub
  have hpl : ps.length ≤ Phi (ps.map Prod.fst) := by
    clear hp hsub hfull e e' b1 b2 b3 b4 hPs
    induction ps with
    | nil => exact Nat.le_refl _
    | cons p ps ih =>
      have := phi_pos p.1
      show ps.length + 1 ≤ phi p.1 + Phi (ps.map Prod.fst)
      omega
  have hsum0 : 0 ≤ am.sum := by
    have : ∀ xs : List Int, (∀ x ∈ xs, 0 ≤ x) → 0 ≤ xs.sum := fun xs => by
      induction xs with
      | nil => intro _; simp
      | cons x xs ih =>
        intro h
        have h1 := h x List.mem_cons_self
        have h2 := ih fun y hy => h y (List.mem_cons_of_mem _ hy)
        simp only [List.sum_cons]
        omega
    refine this am fun x hx => ?_
    obtain ⟨i, hi⟩ := List.mem_iff_getElem?.mp hx
    have hil : i < (seenOf ms).length := by
      rw [← S.len]
      exact (List.getElem?_eq_some_iff.mp hi).1
    exact (S.le i x _ hi (List.getElem?_eq_getElem hil)).1
  refine ⟨?_, ?_, hsub, b1, by rw [List.length_map]; exact b2, by show Phi back ≤ Phi (ps.map Prod.fst); omega, fun q => ?_, ?_⟩
  · have := S.sum
    show 0 ≤ left - am.sum
    omega
  · show left - am.sum ≤ left
    omega
  · have q : 0 < left - am.sum := q
    have hfe : seenOf ms = am := by
      apply Classical.byContradiction
      intro z
      by_cases h9 : (seenOf ms).sum ≤ left
      · exact z (S.all h9).symm
      · have := S.full (by omega)
        omega
    have h4 := b4 fun p h => (hp p h).2 hfe
    have hne2 := List.length_pos_iff.mpr (hfull hfe)
    show (ps.map (tradeE c) ++ sh).length + 3 * Phi back ≤ 3 * Phi (ps.map Prod.fst) ∧ Phi back + 1 ≤ Phi (ps.map Prod.fst)
    rw [List.length_append, List.length_map]
    omega
  · show (ps.map (tradeE c) ++ sh).length + 3 * Phi back ≤ 3 * Phi (ps.map Prod.fst) + Phi ms + 3
    rw [List.length_append, List.length_map]
    omega
theorem step_A {ms : List Row} {c : Com} {left rank : Int} (ok : ∀ r ∈ ms, RowOk r) (hne : ms ≠ []) (hl : 0 < left) (hg : GuardOk c.guard) : StepA ms left (stepM ms c left rank) := by
  unfold stepM
  cases e : ms.find? (fun r => decide (r.who = c.who)) with
  | none => exact trades_A ok hne hl
  | some m =>
    have hm := List.mem_of_find?_eq_some e
    exact own_A (own_ok (ok m hm) hl hg) hm
/-- the rows that are met are of the rows -/
def RuleOk (rule : Str) : Prop := rule = "rank" ∨ rule = "share"
theorem met_sub {rows : List Row} {s rule : Str} : ∃ q : Row → Bool, ∃ L : List Row, (metM rows s rule).Sublist L ∧ L.Perm (rows.filter q) := by
  refine ⟨fun r => decide (r.side = s) && decide (r.price = bestM s ((sideM rows s).map Row.price)), levelM rows s, ?_, ?_⟩
  · unfold metM
    split
    · exact List.nil_sublist _
    · split
      · exact List.Sublist.refl _
      · exact List.take_sublist _ _
  · unfold levelM
    refine (List.mergeSort_perm _ _).trans ?_
    unfold sideM
    rw [List.filter_filter]
    refine List.Perm.of_eq ?_
    congr 1
    funext r
    exact Bool.and_comm _ _
theorem met_mem {rows : List Row} {s rule : Str} {r : Row} (h : r ∈ metM rows s rule) : r ∈ rows := by
  obtain ⟨q, L, h1, h2⟩ := met_sub (rows := rows) (s := s) (rule := rule)
  exact (List.mem_filter.mp (h2.mem_iff.mp (h1.subset h))).1
theorem out_A {rows out : List Row} {s rule : Str} (h : out.Sublist (metM rows s rule)) (ok : ∀ r ∈ rows, RowOk r) : Phi (outM rows out) + Phi out ≤ Phi rows ∧ (outM rows out).length + out.length ≤ rows.length := by
  obtain ⟨q, L, h1, h2⟩ := met_sub (rows := rows) (s := s) (rule := rule)
  have hs := h.trans h1
  have okO : ∀ r ∈ out, RowOk r := fun r hr => ok r (List.mem_filter.mp (h2.mem_iff.mp (hs.subset hr))).1
  have key : ∀ f : Row → Bool, (∀ r ∈ out, f r = true) → ∃ M : List Row, out.Sublist M ∧ M.Perm ((rows.filter q).filter f) := fun f hf => by
    refine ⟨L.filter f, ?_, h2.filter f⟩
    have e : out.filter f = out := List.filter_eq_self.mpr hf
    rw [← e]
    exact hs.filter f
  obtain ⟨M, m1, m2⟩ := key (fun r => out.any fun o => PyData.eqv o.dat r.dat) fun r hr => List.any_eq_true.mpr ⟨r, hr, Row.self (okO r hr)⟩
  have m3 : ((rows.filter q).filter fun r => out.any fun o => PyData.eqv o.dat r.dat).Sublist (rows.filter fun r => out.any fun o => PyData.eqv o.dat r.dat) := by
    refine List.Sublist.filter _ ?_
    exact List.filter_sublist
  have split2 : ∀ xs : List Row, Phi (xs.filter fun r => !(out.any fun o => PyData.eqv o.dat r.dat)) + Phi (xs.filter fun r => out.any fun o => PyData.eqv o.dat r.dat) = Phi xs ∧ (xs.filter fun r => !(out.any fun o => PyData.eqv o.dat r.dat)).length + (xs.filter fun r => out.any fun o => PyData.eqv o.dat r.dat).length = xs.length := fun xs => by
    induction xs with
    | nil => exact ⟨rfl, rfl⟩
    | cons x xs ih =>
      rw [List.filter_cons, List.filter_cons]
      cases hx : out.any fun o => PyData.eqv o.dat x.dat with
      | true =>
        simp only [Bool.not_true, Bool.false_eq_true, if_false, if_true]
        refine ⟨?_, ?_⟩
        · show _ + (phi x + Phi _) = phi x + Phi xs
          omega
        · simp only [List.length_cons]
          omega
      | false =>
        simp only [Bool.not_false, Bool.false_eq_true, if_false, if_true]
        refine ⟨?_, ?_⟩
        · show phi x + Phi _ + _ = phi x + Phi xs
          omega
        · simp only [List.length_cons]
          omega
  obtain ⟨s1, s2⟩ := split2 rows
  have p1 := Phi_sub m1
  rw [Phi_permA m2] at p1
  have p2 := Phi_sub m3
  have q1 := m1.length_le
  rw [m2.length_eq] at q1
  have q2 := m3.length_le
  unfold outM
  exact ⟨by omega, by omega⟩
/-- the state of a meeting by either rule -/
structure AOk (B : Nat) (st : MSt) : Prop where
  rows : ∀ r ∈ st.rows, RowOk r
  len : st.rows.length ≤ B
  l0 : 0 ≤ st.left
  l1 : st.left < 2 ^ 64
  phi : Phi st.rows ≤ B
  ev : st.evts.length + 3 * Phi st.rows ≤ 4 * B + 3
  ev2 : 0 < st.left → st.evts.length + 3 * Phi st.rows ≤ 3 * B
theorem next_A {B : Nat} {c : Com} {rule : Str} {st : MSt} (h : AOk B st) (hne : metM st.rows (agM c.side) rule ≠ []) (hl : 0 < st.left) (hg : GuardOk c.guard) : AOk B (nextM c rule st) ∧ muM (nextM c rule st) < muM st := by
  have okm : ∀ r ∈ metM st.rows (agM c.side) rule, RowOk r := fun r hr => h.rows r (met_mem hr)
  have hs := step_A (rank := st.rank) okm hne hl hg
  have e2 := h.ev2 hl
  have e3 : muM st = Phi st.rows + 1 := by unfold muM; rw [if_pos hl]
  have hPm : Phi (metM st.rows (agM c.side) rule) ≤ Phi st.rows := by
    obtain ⟨q, L, h1, h2⟩ := met_sub (rows := st.rows) (s := agM c.side) (rule := rule)
    have := Phi_sub h1
    rw [Phi_permA h2] at this
    have := Phi_filter q st.rows
    omega
  rw [e3]
  rw [show nextM c rule st = ⟨outM st.rows (stepM (metM st.rows (agM c.side) rule) c st.left st.rank).out ++ (stepM (metM st.rows (agM c.side) rule) c st.left st.rank).back, st.evts ++ (stepM (metM st.rows (agM c.side) rule) c st.left st.rank).told, (stepM (metM st.rows (agM c.side) rule) c st.left st.rank).left, (stepM (metM st.rows (agM c.side) rule) c st.left st.rank).rank⟩ from rfl]
  generalize stepM (metM st.rows (agM c.side) rule) c st.left st.rank = r at hs
  obtain ⟨l0, l1, sub, back, blen, pot0, pot, pote⟩ := hs
  obtain ⟨hP, hL⟩ := out_A sub h.rows
  have hPhi := h.phi
  have hlen := h.len
  have hl1 := h.l1
  have eP : Phi (outM st.rows r.out ++ r.back) = Phi (outM st.rows r.out) + Phi r.back := Phi_app _ _
  refine ⟨⟨fun x hx => ?_, ?_, l0, by show r.left < 2 ^ 64; omega, ?_, ?_, fun q => ?_⟩, ?_⟩
  · rcases List.mem_append.mp hx with z | z
    · exact h.rows x (List.mem_filter.mp z).1
    · exact back x z
  · show (outM st.rows r.out ++ r.back).length ≤ B
    rw [List.length_append]
    omega
  · show Phi (outM st.rows r.out ++ r.back) ≤ B
    rw [eP]
    omega
  · show (st.evts ++ r.told).length + 3 * Phi (outM st.rows r.out ++ r.back) ≤ 4 * B + 3
    rw [List.length_append, eP]
    omega
  · have q : 0 < r.left := q
    have := pot q
    show (st.evts ++ r.told).length + 3 * Phi (outM st.rows r.out ++ r.back) ≤ 3 * B
    rw [List.length_append, eP]
    omega
  · unfold muM
    show (if 0 < r.left then Phi (outM st.rows r.out ++ r.back) + 1 else 0) < Phi st.rows + 1
    rw [eP]
    split
    · rename_i q
      have := pot q
      omega
    · omega

end
section
variable [Fam] [Tabz] {P : Program} {w : World} {K : PySem.W.Frag} {mg : Str → Option Value} {base : Heap}
local macro_rules | `(tactic| walk_at "d") => `(tactic| first | refine Or.inl ⟨_, rfl, ?_⟩ | refine ⟨Nat.le_of_ble_eq_true rfl, ?_⟩ | refine ⟨⟨_, rfl⟩, ?_⟩ | refine ⟨_, rfl, ?_⟩ | refine ⟨_, _, rfl, ?_⟩ | refine ⟨_, _, _, rfl, ?_⟩ | refine ⟨_, _, _, _, rfl, ?_⟩)
/-! ### plain_meet, by either rule -/
def mMeetA : DM := fun rs n Q => ∃ (rows : List Row) (c : Com) (rank : Int) (band : Option Int) (anchorD : PyData) (a : Int) (rule : Str) (B : Nat), rs = [.d (dRows rows), .d c.dat, .d (.int rank), .d (datP band), .d anchorD, .d (.str rule)] ∧
  (band.isSome = true → anchorD = .int a) ∧ GuardOk c.guard ∧ B ≤ 1000 ∧ AOk B ⟨rows, [], c.left, rank⟩ ∧ ∀ k fin, meetF c band a rule k ⟨rows, [], c.left, rank⟩ = some fin → Q (.d (meetRes fin)) n
theorem L_plain_meetA : ∀ rs n Q, mMeetA rs n Q → plainR rs ∧ rs.length = 6 := by
  rintro rs n Q ⟨rows, c, rank, band, x, a, rule, B, rfl, h⟩
  exact plainOf_R (ds := [_, _, _, _, _, _]) rfl
theorem ix_first (d : PyData) (ds : List PyData) : opIxL (.list (d :: ds)) (.int 0) = some (.d d) := by
  show ((atI (d :: ds) 0).map DV.d) = some (.d d)
  rw [show atI (d :: ds) 0 = some d from atI_nat (j := 0) rfl]
  rfl
theorem ok_meetA {f : Addr} {fd : FuncData} (F : Fun K "plain_meet" "plain_meet" s_plain_meet f fd) (T : Txt mg) (c_rows_met : Cal P w K mg base 2 "rows_met" ["rows", "side", "rule"] (spD mMet)) (c_against : Cal P w K mg base 1 "against" ["side"] (spD mAg)) (c_lets : Cal P w K mg base 1 "lets" ["price", "side", "other"] (spD mLets))
    (c_too_far : Cal P w K mg base 1 "too_far" ["price", "band", "anchor"] (spD mFar)) (c_step : Cal P w K mg base 4 "step" ["met", "coming", "left", "rank"] (spD mStep)) (c_ranked : Cal P w K mg base 2 "ranked" ["rows"] (spD mRanked)) : FnOk P w K mg base CX0 5 f fd ["rows", "coming", "rank", "band", "anchor", "rule"] (spD mMeetA) := by
  apply okD F sc_plain_meet L_plain_meetA
  case body =>
    intro cdv A outer s H E hr
    obtain ⟨f_against, fd_against, G_against, m_against, k_against, b_against⟩ := c_against
    obtain ⟨f_lets, fd_lets, G_lets, m_lets, k_lets, b_lets⟩ := c_lets
    obtain ⟨f_ranked, fd_ranked, G_ranked, m_ranked, k_ranked, b_ranked⟩ := c_ranked
    obtain ⟨f_rows_met, fd_rows_met, G_rows_met, m_rows_met, k_rows_met, b_rows_met⟩ := c_rows_met
    obtain ⟨f_step, fd_step, G_step, m_step, k_step, b_step⟩ := c_step
    obtain ⟨f_too_far, fd_too_far, G_too_far, m_too_far, k_too_far, b_too_far⟩ := c_too_far
    exact (psCons (psPar3 (ps_par3 (i := 6) (j := 7) (l := 8) (by rfl) sc_plain_meet.nd rfl rfl rfl (by decide) (by decide) (by decide) rfl rfl rfl (paCons (pdIx r2IxT ix_tup (pdV (pv 1)) (pdC pe_int) (fun _ _ => rfl)) (paCons (pdIx r2IxT ix_tup (pdV (pv 1)) (pdC pe_int) (fun _ _ => rfl)) (paCons (pdIx r2IxT ix_tup (pdV (pv 1)) (pdC pe_int) (fun _ _ => rfl)) paNil))) (by rfl)))
          (psCons (psSet (i := 9) sc_plain_meet.nd rfl (Or.inl rfl) (pdLst paNil))
          (psCons (psSet (i := 10) sc_plain_meet.nd rfl (Or.inl rfl) (pdC pe_bl))
          (psCons (psWhile PassesOwn.never (PW.pt (pwAnd (ptCmp r2Gt op_gt (pdV (pv 8)) (pdC pe_int) (nomark _)) (pwAnd1 (ptNot (ptVal (pdV (pv 10)))))))
           (psCons (psSet (i := 11) sc_plain_meet.nd rfl (Or.inl rfl) (pdCall (fun _ _ _ q => (L_rows_met _ _ _ q).1) G_rows_met (hr.mono (by decide)) (by rfl) m_rows_met k_rows_met b_rows_met pass0 (paCons (pdV (pv 0)) (paCons (pdCall (fun _ _ _ q => (L_against _ _ _ q).1) G_against (hr.mono (by decide)) (by rfl) m_against k_against b_against pass0 (paCons (pdV (pv 6)) paNil)) (paCons (pdV (pv 5)) paNil)))))
            (psCons (psIf (PW.pt (pwOr (ptNot (ptTru (pdV (pv 11)) (by intro _; rfl))) (pwOr1 (ptNot (ptVal (pdCall (fun _ _ _ q => (L_lets _ _ _ q).1) G_lets (hr.mono (by decide)) (by rfl) m_lets k_lets b_lets pass0 (paCons (pdV (pv 7)) (paCons (pdV (pv 6)) (paCons (pdIx r2IxT ix_tup (pdIx r2IxL ix_list (pdV (pv 11)) (pdC pe_int) (fun _ _ => rfl)) (pdC pe_int) (fun _ _ => rfl)) paNil))))))))) (psOne psBrk) psNil)
            (psCons (psSet (i := 10) sc_plain_meet.nd rfl (Or.inl rfl) (pdCall (fun _ _ _ q => (L_too_far _ _ _ q).1) G_too_far (hr.mono (by decide)) (by rfl) m_too_far k_too_far b_too_far pass0 (paCons (pdIx r2IxT ix_tup (pdIx r2IxL ix_list (pdV (pv 11)) (pdC pe_int) (fun _ _ => rfl)) (pdC pe_int) (fun _ _ => rfl)) (paCons (pdV (pv 3)) (paCons (pdV (pv 4)) paNil)))))
            (psOne (psIf (ptNot (ptVal (pdV (pv 10)))) (psCons (psAsg (pdCall (fun _ _ _ q => (L_step _ _ _ q).1) G_step (hr.mono (by decide)) (by rfl) m_step k_step b_step pass0 (paCons (pdV (pv 11)) (paCons (pdV (pv 1)) (paCons (pdV (pv 8)) (paCons (pdV (pv 2)) paNil))))) (pgTup (n := 5) rfl (pgCons (pgN (pg_name (i := 12) sc_plain_meet.nd rfl (Or.inl rfl))) (pgCons (pgN (pg_name (i := 13) sc_plain_meet.nd rfl (Or.inr rfl))) (pgCons (pgN (pg_name (i := 14) sc_plain_meet.nd rfl (Or.inl rfl))) (pgCons (pgN (pg_name (i := 8) sc_plain_meet.nd rfl (Or.inl rfl))) (pgCons (pgN (pg_name (i := 2) sc_plain_meet.nd rfl (Or.inl rfl))) pgNil)))))))
              (psCons (psSet (i := 0) sc_plain_meet.nd rfl (Or.inl rfl) (pdCold (pdOp r2Cat op_cat ((pe_lc (own := [("row", 15)]) rfl sc_plain_meet.nd (piList (pdV (pv 0))) (blkOk_by (N := ["rows", "coming", "rank", "band", "anchor", "rule", "side", "price", "left", "events", "halted", "met", "told", "out", "back", "row"]) (sc := defScope s_plain_meet) (by decide +kernel)) (fun _ _ _ _ _ => (pgN (pg_name (i := 15) sc_plain_meet.nd rfl (Or.inl rfl)))) (fun _ _ _ _ _ => (pts_one (ptCmp r2NotIn (op_notInD hr.units65) (pdV (pv 15)) (pdV (pv 13)) (by rfl)))) (fun _ _ _ _ _ => (pdV (pv 15)))).imp (lc_le (by decide) (fun _ _ _ q => q))) (pdV (pv 14)))))
              (psOne (psExt (by rfl) (pe_bm PySem.F.plainAttrs_list PySem.F.slot_list_extend PySem.F.type_list_extend mt_extend (pv 9) (pa_cons (pdV (pv 12)) pa_nil)))))) psNil))))))
          (psFrz 9 (psOne (psRet (pdTup (paCons (pdV (pv 9)) (paCons (pdCall (fun _ _ _ q => (L_ranked _ _ _ q).1) G_ranked (hr.mono (by decide)) (by rfl) m_ranked k_ranked b_ranked pass0 (paCons (pdV (pv 0)) paNil)) (paCons (pdV (pv 8)) (paCons (pdV (pv 10)) (paCons (pdV (pv 2)) paNil)))))))))))))
  case data =>
    rintro rs n Q ⟨rows, c, rank, band, anchorD, a, rule, B, rfl, hA, hg, hB, ok, h⟩
    repeat walk_at "d"
    obtain ⟨W, eW⟩ : ∃ W : Nat → List DV → Fam.S → Prop, W = fun k ρ m => m = n ∧ ∃ (st : MSt) (hl : Bool) (j11 j12 j13 j14 : DV), ρ = [.d (dRows st.rows), .d c.dat, .d (.int st.rank), .d (datP band), .d anchorD, .d (.str rule), .d (.str c.side), .d (datP c.price), .d (.int st.left), .own (st.evts.map Evt.dat), .d (.bool hl), j11, j12, j13, j14, .un] ∧ AOk B st ∧
      (hl = true → 0 < st.left ∧ ∃ k, meetF c band a rule k ⟨rows, [], c.left, rank⟩ = some (st, true)) ∧ (hl = false → ∀ k fin, meetF c band a rule k st = some fin → ∃ k', meetF c band a rule k' ⟨rows, [], c.left, rank⟩ = some fin) ∧ k = if hl = true then 0 else muM st := ⟨_, rfl⟩
    refine ⟨W, ⟨_, by rw [eW]; exact ⟨rfl, ⟨rows, [], c.left, rank⟩, false, _, _, _, _, rfl, ok, fun z => (by cases z), fun _ k fin e => ⟨k, e⟩, rfl⟩⟩, ?_⟩
    intro k ρ m hw
    rw [eW] at hw
    obtain ⟨rfl, st, hl, j11, j12, j13, j14, rfl, okS, h1, h2, rfl⟩ := hw
    repeat walk_at "d"
    refine ite2 (fun q => ?_) (fun q => ?_)
    · have q : 0 < st.left := of_decide_eq_true q
      cases hl with
      | true =>
        obtain ⟨_, k0, ek⟩ := h1 rfl
        repeat walk_at "d"
        refine ⟨Nat.le_trans okS.len (Nat.le_trans hB (by decide)), ?_⟩
        repeat walk_at "d"
        exact h _ _ ek
      | false =>
        have mu : muM st = Phi st.rows + 1 := by unfold muM; rw [if_pos q]
        repeat walk_at "d"
        refine ⟨fun ρ n => ∃ m', m' < muM st ∧ W m' ρ n, fun ρ n z => z, ?_⟩
        repeat walk_at "d"
        refine ⟨Nat.le_trans okS.len (Nat.le_trans hB (by decide)), ?_⟩
        have hstep : ∀ (m : Row) (tl : List Row), metM st.rows (agM c.side) rule = m :: tl → letsM c.price c.side m.price = true → farM m.price band a = false → ∀ k fin, meetF c band a rule k (nextM c rule st) = some fin → ∃ k', meetF c band a rule k' ⟨rows, [], c.left, rank⟩ = some fin := fun m tl e1 e2 e3 k fin e4 => h2 rfl (k + 1) fin (by
          show (if 0 < st.left then _ else _) = _
          rw [if_pos q, e1]
          show (if letsM c.price c.side m.price = true then _ else _) = _
          rw [if_pos e2, if_neg (by rw [e3]; decide)]
          exact e4)
        have hnext : metM st.rows (agM c.side) rule ≠ [] → AOk B (nextM c rule st) ∧ muM (nextM c rule st) < muM st := fun e => next_A okS e q hg
        have hs : metM st.rows (agM c.side) rule ≠ [] → StepA (metM st.rows (agM c.side) rule) st.left (stepM (metM st.rows (agM c.side) rule) c st.left st.rank) := fun e => step_A (fun r hr => okS.rows r (met_mem hr)) e q hg
        have hmm : ∀ x ∈ metM st.rows (agM c.side) rule, x ∈ st.rows := fun x hx => met_mem hx
        have hml : (metM st.rows (agM c.side) rule).length ≤ st.rows.length ∧ Phi (metM st.rows (agM c.side) rule) ≤ Phi st.rows := by
          obtain ⟨qq, L, g1, g2⟩ := met_sub (rows := st.rows) (s := agM c.side) (rule := rule)
          have g3 := g1.length_le
          rw [g2.length_eq] at g3
          have g4 := List.length_filter_le qq st.rows
          have g5 := Phi_sub g1
          rw [Phi_permA g2] at g5
          have g6 := Phi_filter qq st.rows
          exact ⟨by omega, by omega⟩
        have enx : nextM c rule st = ⟨outM st.rows (stepM (metM st.rows (agM c.side) rule) c st.left st.rank).out ++ (stepM (metM st.rows (agM c.side) rule) c st.left st.rank).back, st.evts ++ (stepM (metM st.rows (agM c.side) rule) c st.left st.rank).told, (stepM (metM st.rows (agM c.side) rule) c st.left st.rank).left, (stepM (metM st.rows (agM c.side) rule) c st.left st.rank).rank⟩ := rfl
        generalize hmet : metM st.rows (agM c.side) rule = ms at hstep hnext hs hmm hml enx ⊢
        cases ms with
        | nil =>
          obtain ⟨k0, ek⟩ := h2 rfl 1 (st, false) (by
            show (if 0 < st.left then _ else _) = _
            rw [if_pos q, hmet])
          repeat walk_at "d"
          refine ⟨Nat.le_trans okS.len (Nat.le_trans hB (by decide)), ?_⟩
          repeat walk_at "d"
          exact h _ _ ek
        | cons r tl =>
          have okr := okS.rows r (hmm r List.mem_cons_self)
          repeat walk_at "d"
          refine ⟨_, ix_first _ _, ?_⟩
          repeat walk_at "d"
          refine ite2 (fun q2 => ?_) (fun q2 => ?_)
          · have q2 : letsM c.price c.side r.price = false := by
              have : (!letsM c.price c.side r.price) = true := q2
              simpa using this
            obtain ⟨k0, ek⟩ := h2 rfl 1 (st, false) (by
              show (if 0 < st.left then _ else _) = _
              rw [if_pos q, hmet]
              show (if letsM c.price c.side r.price = true then _ else _) = _
              rw [if_neg (by rw [q2]; decide)])
            repeat walk_at "d"
            refine ⟨Nat.le_trans okS.len (Nat.le_trans hB (by decide)), ?_⟩
            repeat walk_at "d"
            exact h _ _ ek
          · have q2 : letsM c.price c.side r.price = true := by
              have : ¬ (!letsM c.price c.side r.price) = true := q2
              simpa using this
            repeat walk_at "d"
            refine ⟨_, ix_first _ _, ?_⟩
            repeat walk_at "d"
            refine ⟨r.price, band, anchorD, a, rfl, hA, ?_⟩
            repeat walk_at "d"
            refine ite2 (fun q3 => ?_) (fun q3 => ?_)
            · have q3 : farM r.price band a = false := by
                have : (!farM r.price band a) = true := q3
                simpa using this
              have hst := hs (by simp)
              obtain ⟨hn1, hn2⟩ := hnext (by simp)
              have hfin := hstep r tl rfl q2 q3
              repeat walk_at "d"
              refine ⟨hg, ⟨okS.l0, okS.l1⟩, fun x hx => ?_, (by have := okS.len; show (r :: tl).length ≤ 50000; omega), ?_⟩
              · have okx := okS.rows x (hmm x hx)
                exact ⟨by have := okx.1; omega, by have := okx.2.1; have := okx.2.2.1; omega⟩
              generalize stepM (r :: tl) c st.left st.rank = res at hst enx ⊢
              have hout : ∀ x ∈ res.out, RowOk x := fun x hx => okS.rows x (hmm x (hst.sub.subset hx))
              have hol2 := hst.sub.length_le
              have hPs := Phi_sub hst.sub
              have hbl : res.back.length ≤ 1000 := by
                have := hst.blen
                have := okS.len
                omega
              have hphi := okS.phi
              have hlen := okS.len
              have hev := okS.ev
              have htl : res.told.length ≤ 5 * B + 3 := by
                have := hst.pote
                omega
              repeat walk_at "d"
              refine lcFil (fun d => !(res.out.map Row.dat).any fun z => PyData.eqv z d) rfl (by rw [List.length_map]; omega) ?_ ?_
              · intro d hd
                obtain ⟨x, hx, rfl⟩ := dat_mem hd
                refine ⟨_, rfl, fun R k => ?_, fun R k => ?_⟩
                · repeat walk_at "d"
                  refine ⟨_, in_ok (Row.shaped (okS.rows x hx)) (rows_shaped hout), ?_⟩
                  repeat walk_at "d"
                  exact k
                · repeat walk_at "d"
                  exact k
              rw [filter_dat (fun x => !(res.out.any fun o => PyData.eqv o.dat x.dat)) _ (fun x => by rw [any_dat])]
              have hol : (outM st.rows res.out).length ≤ st.rows.length := out_len _ _
              repeat walk_at "d"
              refine ⟨_, opCat_ok (by rw [List.length_map, List.length_map]; show (outM st.rows res.out).length + _ ≤ _; omega), ?_⟩
              repeat walk_at "d"
              refine ⟨by rw [List.length_map, List.length_map]; omega, ?_⟩
              refine ⟨_, hn2, ?_⟩
              rw [eW]
              refine ⟨rfl, nextM c rule st, false, .d (dRows (r :: tl)), .d (dEvts res.told), .d (dRows res.out), .d (dRows res.back), ?_, hn1, fun z => (by cases z), fun _ => hfin, rfl⟩
              rw [enx]
              dsimp only
              unfold dRows outM
              rw [← q3, List.map_append, List.map_append]
              rfl
            · have q3 : farM r.price band a = true := by
                have : ¬ (!farM r.price band a) = true := q3
                simpa using this
              repeat walk_at "d"
              refine ⟨0, by rw [mu]; exact Nat.succ_pos _, ?_⟩
              rw [eW]
              exact ⟨rfl, st, true, _, _, _, _, by rw [← q3]; rfl, okS, fun _ => ⟨q, h2 rfl 1 (st, true) (by
                show (if 0 < st.left then _ else _) = _
                rw [if_pos q, hmet]
                show (if letsM c.price c.side r.price = true then _ else _) = _
                rw [if_pos q2, if_pos q3])⟩, fun z => (by cases z), rfl⟩
    · have q : ¬ 0 < st.left := fun z => q (decide_eq_true z)
      obtain ⟨k0, ek⟩ : ∃ k', meetF c band a rule k' ⟨rows, [], c.left, rank⟩ = some (st, hl) := by
        cases hl with
        | true => exact absurd (h1 rfl).1 q
        | false => exact h2 rfl 1 (st, false) (by show (if 0 < st.left then _ else _) = _; rw [if_neg q])
      repeat walk_at "d"
      refine ⟨Nat.le_trans okS.len (Nat.le_trans hB (by decide)), ?_⟩
      repeat walk_at "d"
      exact h _ _ ek

end
section
variable [Fam] [Tabz] {P : Program} {w : World} {K : PySem.W.Frag} {mg : Str → Option Value} {base : Heap}
/-! ### meetings by rank: rows in another order, events ahead -/
def UR (rows : List Row) (k : Int) : Prop := (∀ a ∈ rows, ∀ b ∈ rows, a.rank = b.rank → a = b) ∧ ∀ r ∈ rows, r.rank < k
theorem UR.perm {r r' : List Row} {k : Int} (h : UR r k) (p : r.Perm r') : UR r' k :=
  ⟨fun a ha b hb e => h.1 a (p.mem_iff.mpr ha) b (p.mem_iff.mpr hb) e, fun x hx => h.2 x (p.mem_iff.mpr hx)⟩
theorem sort_rank_eq {xs ys : List Row} (p : xs.Perm ys) (u : ∀ a ∈ xs, ∀ b ∈ xs, a.rank = b.rank → a = b) : xs.mergeSort leRank = ys.mergeSort leRank := by
  have tr : ∀ a b c : Row, leRank a b = true → leRank b c = true → leRank a c = true := fun a b c h1 h2 => by
    have h1 := of_decide_eq_true h1
    have h2 := of_decide_eq_true h2
    exact decide_eq_true (Int.le_trans h1 h2)
  have to : ∀ a b : Row, (leRank a b || leRank b a) = true := fun a b => by
    unfold leRank
    rw [Bool.or_eq_true, decide_eq_true_eq, decide_eq_true_eq]
    exact Int.le_total _ _
  refine List.Perm.eq_of_pairwise (le := fun a b => leRank a b = true) ?_ (List.pairwise_mergeSort tr to xs) (List.pairwise_mergeSort tr to ys) (((List.mergeSort_perm xs leRank).trans p).trans (List.mergeSort_perm ys leRank).symm)
  intro a b ha hb h1 h2
  have h1 := of_decide_eq_true h1
  have h2 := of_decide_eq_true h2
  exact u a (List.mem_mergeSort.mp ha) b (p.mem_iff.mpr (List.mem_mergeSort.mp hb)) (Int.le_antisymm h1 h2)
theorem sort_row_eq {neg : Bool} {xs ys : List Row} (p : xs.Perm ys) (u : ∀ a ∈ xs, ∀ b ∈ xs, a.rank = b.rank → a = b) : xs.mergeSort (leRow neg) = ys.mergeSort (leRow neg) := by
  have tr : ∀ a b c : Row, leRow neg a b = true → leRow neg b c = true → leRow neg a c = true := fun a b c h1 h2 => by
    have h1 := of_decide_eq_true h1
    have h2 := of_decide_eq_true h2
    refine decide_eq_true ?_
    omega
  have to : ∀ a b : Row, (leRow neg a b || leRow neg b a) = true := fun a b => by
    unfold leRow
    rw [Bool.or_eq_true, decide_eq_true_eq, decide_eq_true_eq]
    omega
  refine List.Perm.eq_of_pairwise (le := fun a b => leRow neg a b = true) ?_ (List.pairwise_mergeSort tr to xs) (List.pairwise_mergeSort tr to ys) (((List.mergeSort_perm xs (leRow neg)).trans p).trans (List.mergeSort_perm ys (leRow neg)).symm)
  intro a b ha hb h1 h2
  have h1 := of_decide_eq_true h1
  have h2 := of_decide_eq_true h2
  exact u a (List.mem_mergeSort.mp ha) b (p.mem_iff.mpr (List.mem_mergeSort.mp hb)) (by omega)
theorem maxI_perm {xs ys : List Int} (p : xs.Perm ys) : maxI xs = maxI ys := by
  cases xs with
  | nil => rw [List.nil_perm.mp p]
  | cons x xs =>
    cases ys with
    | nil => exact absurd p.length_eq (by simp)
    | cons y ys =>
      obtain ⟨a1, a2⟩ := foldl_max xs x
      obtain ⟨b1, b2⟩ := foldl_max ys y
      show some _ = some _
      rw [Int.le_antisymm (b2 _ (p.mem_iff.mp a1)) (a2 _ (p.mem_iff.mpr b1))]
theorem minI_perm {xs ys : List Int} (p : xs.Perm ys) : minI xs = minI ys := by
  cases xs with
  | nil => rw [List.nil_perm.mp p]
  | cons x xs =>
    cases ys with
    | nil => exact absurd p.length_eq (by simp)
    | cons y ys =>
      obtain ⟨a1, a2⟩ := foldl_min xs x
      obtain ⟨b1, b2⟩ := foldl_min ys y
      show some _ = some _
      rw [Int.le_antisymm (a2 _ (p.mem_iff.mpr b1)) (b2 _ (p.mem_iff.mp a1))]
theorem side_perm {rows rows' : List Row} (p : rows.Perm rows') (s : Str) : (sideM rows s).Perm (sideM rows' s) := p.filter _
theorem met_perm {rows rows' : List Row} {k : Int} (p : rows.Perm rows') (u : UR rows k) (s rule : Str) : metM rows s rule = metM rows' s rule := by
  have ps := side_perm p s
  have e1 : (sideM rows s).isEmpty = (sideM rows' s).isEmpty := by
    have := ps.length_eq
    cases h1 : sideM rows s <;> cases h2 : sideM rows' s <;> simp [h1, h2] at this ⊢
  have e2 : bestM s ((sideM rows s).map Row.price) = bestM s ((sideM rows' s).map Row.price) := by
    unfold bestM
    rw [maxI_perm (ps.map Row.price), minI_perm (ps.map Row.price)]
  have e3 : levelM rows s = levelM rows' s := by
    unfold levelM
    rw [e2]
    refine sort_rank_eq (ps.filter _) fun a ha b hb => u.1 a ?_ b ?_
    · exact (List.mem_filter.mp (List.mem_filter.mp ha).1).1
    · exact (List.mem_filter.mp (List.mem_filter.mp hb).1).1
  unfold metM
  rw [e1, e3]
theorem rank_perm {rows rows' : List Row} {k : Int} (p : rows.Perm rows') (u : UR rows k) : rankM rows = rankM rows' := by
  unfold rankM
  rw [sort_row_eq (side_perm p "buy") fun a ha b hb => u.1 a (List.mem_filter.mp ha).1 b (List.mem_filter.mp hb).1, sort_row_eq (side_perm p "sell") fun a ha b hb => u.1 a (List.mem_filter.mp ha).1 b (List.mem_filter.mp hb).1]
theorem rank_of_perm {rows : List Row} (h : ∀ r ∈ rows, r.side = "buy" ∨ r.side = "sell") : (rankM rows).Perm rows := by
  unfold rankM
  refine ((List.mergeSort_perm _ _).append (List.mergeSort_perm _ _)).trans ?_
  unfold sideM
  have e : rows.filter (fun r : Row => decide (r.side = ("sell" : Str))) = rows.filter fun r : Row => !decide (r.side = ("buy" : Str)) := by
    refine List.filter_congr fun r hr => ?_
    rcases h r hr with e | e <;> rw [e] <;> decide +kernel
  rw [e]
  exact List.filter_append_perm _ _
/-- what steps come to -/
def tradeR (m : Row) (c : Com) (a L k : Int) : Res := ⟨tradeE c (m, a) :: (anewM [seenM m a] k).1, [m], (anewM [seenM m a] k).2.1, L - a, (anewM [seenM m a] k).2.2⟩
def lessR (m : Row) (c : Com) (a L k : Int) : Res := ⟨.less m.num c.num a :: (anewM [hidM m a] k).1, [m], (anewM [hidM m a] k).2.1, L - a, (anewM [hidM m a] k).2.2⟩
def amtM (m : Row) (L : Int) : Int := if m.seen ≤ L then m.seen else L
theorem step_trade {m : Row} {c : Com} {L k : Int} (h : m.who ≠ c.who) (ok : RowOk m) (hl : 0 < L) : stepM [m] c L k = tradeR m c (amtM m L) L k := by
  unfold stepM
  rw [show [m].find? (fun r => decide (r.who = c.who)) = none by simp [h]]
  show tradesM [m] c L k = _
  have es : sharesM L (seenOf [m]) = [amtM m L] := share_one (by have := ok.1; omega) (by omega)
  have a0 : 0 < amtM m L := by have := ok.1; unfold amtM; split <;> omega
  unfold tradesM tradesOf
  rw [es]
  have ez : (([m].zip [amtM m L]).filter fun p : Row × Int => decide (0 < p.2)) = [(m, amtM m L)] := by simp [a0]
  rw [ez]
  simp only [List.map_cons, List.map_nil, List.sum_cons, List.sum_nil, Int.add_zero]
  rfl
theorem step_own {m : Row} {c : Com} {L k : Int} (h : m.who = c.who) : stepM [m] c L k = ownM m c L k := by
  unfold stepM
  rw [show [m].find? (fun r => decide (r.who = c.who)) = some m by simp [h]]
theorem ownE_less {m : Row} {c : Com} {L k : Int} (h : c.guard = "less") : ownM m c L k = lessR m c (minM L m.left) L k := by
  unfold ownM
  rw [if_pos h]
  rfl
theorem ownE_old {m : Row} {c : Com} {L k : Int} (h : c.guard = "old") : ownM m c L k = ⟨[.off m.num m.left], [m], [], L, k⟩ := by
  unfold ownM
  rw [if_neg (by rw [h]; decide +kernel), if_pos h]
theorem ownE_new {m : Row} {c : Com} {L k : Int} (h : c.guard = "new") : ownM m c L k = ⟨[.off c.num L], [], [], 0, k⟩ := by
  unfold ownM
  rw [if_neg (by rw [h]; decide +kernel), if_neg (by rw [h]; decide +kernel), if_neg (by rw [h]; decide +kernel), if_pos h]
theorem ownE_both {m : Row} {c : Com} {L k : Int} (h : c.guard = "both") : ownM m c L k = ⟨[.off m.num m.left, .off c.num L], [m], [], 0, k⟩ := by
  unfold ownM
  rw [if_neg (by rw [h]; decide +kernel), if_neg (by rw [h]; decide +kernel), if_pos h]
/-- ranks of what comes back -/
theorem anew_ranks (r : Row) (k : Int) : ((anewM [r] k).2.1 = [] ∧ (anewM [r] k).2.2 = k) ∨ ((anewM [r] k).2.1 = [r] ∧ (anewM [r] k).2.2 = k) ∨ ∃ b, (anewM [r] k).2.1 = [b] ∧ b.rank = k ∧ (anewM [r] k).2.2 = k + 1 := by
  rw [anew_one]
  split
  · exact .inr (.inl ⟨rfl, rfl⟩)
  · split
    · exact .inr (.inr ⟨_, rfl, rfl, rfl⟩)
    · exact .inl ⟨rfl, rfl⟩
theorem step_ranks {m : Row} {c : Com} {L k : Int} (ok : RowOk m) (hl : 0 < L) (hg : GuardOk c.guard) : ((stepM [m] c L k).back = [] ∧ (stepM [m] c L k).rank = k) ∨ ((stepM [m] c L k).out = [m] ∧ ∃ b, (stepM [m] c L k).back = [b] ∧ ((b.rank = m.rank ∧ (stepM [m] c L k).rank = k) ∨ (b.rank = k ∧ (stepM [m] c L k).rank = k + 1))) := by
  have aux : ∀ (r : Row) (t : Evt) (l : Int), r.rank = m.rank → (((⟨t :: (anewM [r] k).1, [m], (anewM [r] k).2.1, l, (anewM [r] k).2.2⟩ : Res).back = [] ∧ (⟨t :: (anewM [r] k).1, [m], (anewM [r] k).2.1, l, (anewM [r] k).2.2⟩ : Res).rank = k) ∨ ((⟨t :: (anewM [r] k).1, [m], (anewM [r] k).2.1, l, (anewM [r] k).2.2⟩ : Res).out = [m] ∧ ∃ b, (⟨t :: (anewM [r] k).1, [m], (anewM [r] k).2.1, l, (anewM [r] k).2.2⟩ : Res).back = [b] ∧ ((b.rank = m.rank ∧ (⟨t :: (anewM [r] k).1, [m], (anewM [r] k).2.1, l, (anewM [r] k).2.2⟩ : Res).rank = k) ∨ (b.rank = k ∧ (⟨t :: (anewM [r] k).1, [m], (anewM [r] k).2.1, l, (anewM [r] k).2.2⟩ : Res).rank = k + 1)))) := by
    intro r t l e
    rcases anew_ranks r k with ⟨h1, h2⟩ | ⟨h1, h2⟩ | ⟨b, h1, h2, h3⟩
    · exact .inl ⟨h1, h2⟩
    · exact .inr ⟨rfl, r, h1, .inl ⟨e, h2⟩⟩
    · exact .inr ⟨rfl, b, h1, .inr ⟨h2, h3⟩⟩
  by_cases h : m.who = c.who
  · rw [step_own h]
    rcases hg with g | g | g | g
    · rw [ownE_old g]; exact .inl ⟨rfl, rfl⟩
    · rw [ownE_new g]; exact .inl ⟨rfl, rfl⟩
    · rw [ownE_both g]; exact .inl ⟨rfl, rfl⟩
    · rw [ownE_less g]
      exact aux (hidM m (minM L m.left)) _ _ rfl
  · rw [step_trade h ok hl]
    exact aux (seenM m (amtM m L)) _ _ rfl
theorem out_one {rows : List Row} {m x : Row} (ok : RowOk m) : x ∈ outM rows [m] ↔ x ∈ rows ∧ x ≠ m := by
  unfold outM
  rw [List.mem_filter]
  refine and_congr_right fun _ => ?_
  have e : ([m].any fun o => PyData.eqv o.dat x.dat) = PyData.eqv m.dat x.dat := by simp
  rw [e]
  have h := eqv_row m x
  constructor
  · intro h1 h2
    subst h2
    rw [h.mpr rfl] at h1
    cases h1
  · intro h1
    cases q : PyData.eqv m.dat x.dat with
    | false => rfl
    | true => exact absurd (h.mp q).symm h1
theorem out_none (rows : List Row) : outM rows [] = rows := by
  unfold outM
  simp
theorem next_UR {c : Com} {st : MSt} {m : Row} {tl : List Row} (hmet : metM st.rows (agM c.side) "rank" = m :: tl) (u : UR st.rows st.rank) (ok : ∀ r ∈ st.rows, RowOk r) (hl : 0 < st.left) (hg : GuardOk c.guard) : UR (nextM c "rank" st).rows (nextM c "rank" st).rank := by
  obtain ⟨z, hm⟩ := met_one hmet
  subst z
  have okm := ok m hm
  have sr := step_ranks (k := st.rank) okm hl hg
  show UR (outM st.rows (stepM (metM st.rows (agM c.side) "rank") c st.left st.rank).out ++ (stepM (metM st.rows (agM c.side) "rank") c st.left st.rank).back) (stepM (metM st.rows (agM c.side) "rank") c st.left st.rank).rank
  rw [hmet]
  generalize stepM [m] c st.left st.rank = r at sr
  have sub : ∀ x, x ∈ outM st.rows r.out → x ∈ st.rows := fun x hx => (List.mem_filter.mp hx).1
  rcases sr with ⟨e1, e2⟩ | ⟨e0, b, e1, e2⟩
  · rw [e1, e2, List.append_nil]
    exact ⟨fun a ha b hb => u.1 a (sub a ha) b (sub b hb), fun x hx => u.2 x (sub x hx)⟩
  · rw [e0, e1]
    have no : ∀ x ∈ outM st.rows [m], x.rank ≠ b.rank := fun x hx e => by
      obtain ⟨h1, h2⟩ := (out_one okm).mp hx
      rcases e2 with ⟨e3, _⟩ | ⟨e3, _⟩
      · exact h2 (u.1 x h1 m hm (e.trans e3))
      · have := u.2 x h1
        omega
    refine ⟨fun x hx y hy e => ?_, fun x hx => ?_⟩
    · rcases List.mem_append.mp hx with hx | hx <;> rcases List.mem_append.mp hy with hy | hy
      · exact u.1 x ((out_one okm).mp hx).1 y ((out_one okm).mp hy).1 e
      · rw [List.mem_singleton.mp hy] at e
        exact absurd e (no x hx)
      · rw [List.mem_singleton.mp hx] at e
        exact absurd e.symm (no y hy)
      · rw [List.mem_singleton.mp hx, List.mem_singleton.mp hy]
    · rcases List.mem_append.mp hx with hx | hx
      · have := u.2 x ((out_one okm).mp hx).1
        rcases e2 with ⟨_, e4⟩ | ⟨_, e4⟩ <;> omega
      · rw [List.mem_singleton.mp hx]
        rcases e2 with ⟨e3, e4⟩ | ⟨e3, e4⟩
        · have := u.2 m hm
          omega
        · omega
theorem meet_perm {B : Nat} {c : Com} {band : Option Int} {a : Int} (hg : GuardOk c.guard) : ∀ {k : Nat} {st : MSt} {rows' : List Row} {fin : MSt × Bool}, MOk B st → UR st.rows st.rank → st.rows.Perm rows' → meetF c band a "rank" k st = some fin →
    ∃ rows'', fin.1.rows.Perm rows'' ∧ meetF c band a "rank" k { st with rows := rows' } = some ({ fin.1 with rows := rows'' }, fin.2)
  | 0, _, _, _, _, _, _, h => by cases h
  | k + 1, st, rows', fin, ok, u, p, h => by
    unfold meetF at h ⊢
    have e := met_perm p u (agM c.side) "rank"
    by_cases q : 0 < st.left
    · rw [if_pos q] at h
      rw [if_pos (show 0 < ({ st with rows := rows' } : MSt).left from q)]
      rw [show metM ({ st with rows := rows' } : MSt).rows (agM c.side) "rank" = metM st.rows (agM c.side) "rank" from e.symm]
      cases hmet : metM st.rows (agM c.side) "rank" with
      | nil =>
        rw [hmet] at h
        cases h
        exact ⟨rows', p, rfl⟩
      | cons m tl =>
        rw [hmet] at h
        dsimp only at h ⊢
        split at h
        · rename_i q1
          rw [if_pos q1]
          split at h
          · rename_i q2
            rw [if_pos q2]
            cases h
            exact ⟨rows', p, rfl⟩
          · rename_i q2
            rw [if_neg q2]
            have p2 : (nextM c "rank" st).rows.Perm (nextM c "rank" { st with rows := rows' }).rows := by
              show (outM st.rows (stepM (metM st.rows (agM c.side) "rank") c st.left st.rank).out ++ (stepM (metM st.rows (agM c.side) "rank") c st.left st.rank).back).Perm (outM rows' (stepM (metM rows' (agM c.side) "rank") c st.left st.rank).out ++ (stepM (metM rows' (agM c.side) "rank") c st.left st.rank).back)
              rw [← e]
              exact (p.filter _).append_right _
            have e3 : nextM c "rank" { st with rows := rows' } = { nextM c "rank" st with rows := (nextM c "rank" { st with rows := rows' }).rows } := by
              unfold nextM
              rw [show ({ st with rows := rows' } : MSt).rows = rows' from rfl, ← e]
            rw [e3]
            exact meet_perm hg (next_ok ok hmet q hg).1 (next_UR hmet u ok.rows q hg) p2 h
        · rename_i q1
          rw [if_neg q1]
          cases h
          exact ⟨rows', p, rfl⟩
    · rw [if_neg q] at h
      rw [if_neg (show ¬ 0 < ({ st with rows := rows' } : MSt).left from q)]
      cases h
      exact ⟨rows', p, rfl⟩
/-- events ahead -/
def preE (ev : List Evt) (f : MSt × Bool) : MSt × Bool := ({ f.1 with evts := ev ++ f.1.evts }, f.2)
theorem meet_ev {c : Com} {band : Option Int} {a : Int} {rule : Str} : ∀ (k : Nat) (st : MSt), meetF c band a rule k st = (meetF c band a rule k { st with evts := [] }).map (preE st.evts)
  | 0, _ => rfl
  | k + 1, st => by
    have e0 : preE st.evts ({ st with evts := [] }, false) = (st, false) := by
      unfold preE
      simp
    have e1 : preE st.evts ({ st with evts := [] }, true) = (st, true) := by
      unfold preE
      simp
    unfold meetF
    show _ = Option.map _ (if 0 < st.left then match metM st.rows (agM c.side) rule with | [] => some ({ st with evts := [] }, false) | m :: _ => if letsM c.price c.side m.price = true then if farM m.price band a = true then some ({ st with evts := [] }, true) else meetF c band a rule k (nextM c rule { st with evts := [] }) else some ({ st with evts := [] }, false) else some ({ st with evts := [] }, false))
    by_cases q : 0 < st.left
    · rw [if_pos q, if_pos q]
      cases metM st.rows (agM c.side) rule with
      | nil => rw [Option.map_some, e0]
      | cons m tl =>
        dsimp only
        split
        · split
          · rw [Option.map_some, e1]
          · rw [meet_ev k (nextM c rule st), meet_ev k (nextM c rule { st with evts := [] })]
            have e2 : ({ nextM c rule { st with evts := [] } with evts := [] } : MSt) = { nextM c rule st with evts := [] } := rfl
            rw [e2, Option.map_map]
            congr 1
            funext f
            unfold preE
            show _ = (({ f.1 with evts := st.evts ++ (([] ++ _) ++ f.1.evts) } : MSt), f.2)
            rw [List.nil_append, ← List.append_assoc]
            rfl
        · rw [Option.map_some, e0]
    · rw [if_neg q, if_neg q, Option.map_some, e0]

end
section
variable [Fam] [Tabz] {P : Program} {w : World} {K : PySem.W.Frag} {mg : Str → Option Value} {base : Heap}
/-! ### the first row that is met -/
def betM (s : Str) (p q : Int) : Prop := if s = "buy" then q ≤ p else p ≤ q
theorem best_bet {s : Str} {ps : List Int} {q : Int} (hq : q ∈ ps) : betM s (bestM s ps) q := by
  cases ps with
  | nil => cases hq
  | cons i is =>
    unfold betM bestM
    by_cases e : s = "buy"
    · rw [if_pos e, if_pos e]
      exact (foldl_max is i).2 q hq
    · rw [if_neg e, if_neg e]
      exact (foldl_min is i).2 q hq
theorem best_mem {s : Str} {ps : List Int} (h : ps ≠ []) : bestM s ps ∈ ps := by
  cases ps with
  | nil => exact absurd rfl h
  | cons i is =>
    unfold bestM
    by_cases e : s = "buy"
    · rw [if_pos e]
      exact (foldl_max is i).1
    · rw [if_neg e]
      exact (foldl_min is i).1
theorem bet_antisymm {s : Str} {p q : Int} (h1 : betM s p q) (h2 : betM s q p) : p = q := by
  unfold betM at h1 h2
  split at h1 <;> rename_i e
  · rw [if_pos e] at h2
    omega
  · rw [if_neg e] at h2
    omega
theorem level_pw (rows : List Row) (s : Str) : (levelM rows s).Pairwise fun a b => leRank a b = true := by
  refine List.pairwise_mergeSort (le := leRank) (fun a b c h1 h2 => ?_) (fun a b => ?_) _
  · have h1 := of_decide_eq_true h1
    have h2 := of_decide_eq_true h2
    exact decide_eq_true (Int.le_trans h1 h2)
  · unfold leRank
    rw [Bool.or_eq_true, decide_eq_true_eq, decide_eq_true_eq]
    exact Int.le_total _ _
structure FirstM (rows : List Row) (s : Str) (m : Row) : Prop where
  mem : m ∈ rows
  side : m.side = s
  best : ∀ r ∈ rows, r.side = s → betM s m.price r.price
  rank : ∀ r ∈ rows, r.side = s → r.price = m.price → m.rank ≤ r.rank
theorem first_of {rows : List Row} {s : Str} {m : Row} {tl : List Row} (h : metM rows s "rank" = m :: tl) : FirstM rows s m := by
  unfold metM at h
  split at h
  · cases h
  · rw [if_neg (by decide +kernel)] at h
    have hh : (levelM rows s).take 1 = m :: tl := h
    cases hl : levelM rows s with
    | nil => rw [hl] at hh; cases hh
    | cons x xs =>
      rw [hl] at hh
      have e : x = m := by injection hh
      subst e
      have pw := level_pw rows s
      rw [hl] at pw
      have hx : x ∈ levelM rows s := by rw [hl]; exact List.mem_cons_self
      have hx2 := List.mem_filter.mp (List.mem_mergeSort.mp hx)
      have hp : x.price = bestM s ((sideM rows s).map Row.price) := of_decide_eq_true hx2.2
      have hs := List.mem_filter.mp hx2.1
      refine ⟨hs.1, of_decide_eq_true hs.2, fun r hr hrs => ?_, fun r hr hrs hrp => ?_⟩
      · rw [hp]
        exact best_bet (List.mem_map.mpr ⟨r, List.mem_filter.mpr ⟨hr, decide_eq_true hrs⟩, rfl⟩)
      · have hr2 : r ∈ levelM rows s := List.mem_mergeSort.mpr (List.mem_filter.mpr ⟨List.mem_filter.mpr ⟨hr, decide_eq_true hrs⟩, decide_eq_true (hrp.trans hp)⟩)
        rw [hl] at hr2
        rcases List.mem_cons.mp hr2 with e | e
        · rw [e]; exact Int.le_refl _
        · exact of_decide_eq_true (List.rel_of_pairwise_cons pw e)
theorem first_to {rows : List Row} {k : Int} {s : Str} {m : Row} (u : UR rows k) (f : FirstM rows s m) : metM rows s "rank" = [m] := by
  have ms : m ∈ sideM rows s := List.mem_filter.mpr ⟨f.mem, decide_eq_true f.side⟩
  have ne : (sideM rows s).isEmpty = false := by
    cases h : sideM rows s with
    | nil => rw [h] at ms; cases ms
    | cons _ _ => rfl
  have hb : bestM s ((sideM rows s).map Row.price) = m.price := by
    have hne : (sideM rows s).map Row.price ≠ [] := by
      intro h
      have := List.map_eq_nil_iff.mp h
      rw [this] at ms
      cases ms
    obtain ⟨r, hr, er⟩ := List.mem_map.mp (best_mem (s := s) hne)
    have hr2 := List.mem_filter.mp hr
    have b1 := f.best r hr2.1 (of_decide_eq_true hr2.2)
    have b2 := best_bet (s := s) (ps := (sideM rows s).map Row.price) (q := m.price) (List.mem_map.mpr ⟨m, ms, rfl⟩)
    rw [er] at b1
    exact bet_antisymm b2 b1
  have ml : m ∈ levelM rows s := List.mem_mergeSort.mpr (List.mem_filter.mpr ⟨ms, decide_eq_true hb.symm⟩)
  have pw := level_pw rows s
  unfold metM
  rw [ne, if_neg (by decide), if_neg (by decide +kernel)]
  cases hl : levelM rows s with
  | nil => rw [hl] at ml; cases ml
  | cons x xs =>
    rw [hl] at ml pw
    have hx : x ∈ levelM rows s := by rw [hl]; exact List.mem_cons_self
    have hx2 := List.mem_filter.mp (List.mem_mergeSort.mp hx)
    have hp : x.price = m.price := (of_decide_eq_true hx2.2 : x.price = _).trans hb
    have hs := List.mem_filter.mp hx2.1
    have e : x = m := by
      refine u.1 x hs.1 m f.mem (Int.le_antisymm ?_ (f.rank x hs.1 (of_decide_eq_true hs.2) hp))
      rcases List.mem_cons.mp ml with e | e
      · rw [e]; exact Int.le_refl _
      · exact of_decide_eq_true (List.rel_of_pairwise_cons pw e)
    rw [e]
    rfl
/-! ### events put together -/
def mergeE : Evt → Evt → Option Evt
  | .trade b s p a, .trade b' s' p' a' => if b = b' ∧ s = s' ∧ p = p' then some (.trade b' s' p' (a' + a)) else none
  | .less r c a, .less r' c' a' => if r = r' ∧ c = c' then some (.less r' c' (a' + a)) else none
  | .off m a, .off m' a' => if m = m' then some (.off m' (a' + a)) else none
  | _, _ => none
def joinS (f : List Evt) (e : Evt) : List Evt := match f.getLast? with
  | none => f ++ [e]
  | some l => match mergeE l e with
    | some x => f.dropLast ++ [x]
    | none => f ++ [e]
theorem merge_assoc {l x y w z : Evt} (h1 : mergeE l x = some w) (h2 : mergeE x y = some z) : ∃ w', mergeE w y = some w' ∧ mergeE l z = some w' := by
  cases l <;> cases x <;> simp only [mergeE, reduceCtorEq] at h1 <;> cases y <;> simp only [mergeE, reduceCtorEq] at h2
  all_goals
    split at h1 <;> cases h1
    split at h2 <;> cases h2
    rename_i e1 e2
    simp only [mergeE]
  · obtain ⟨a1, a2, a3⟩ := e1
    obtain ⟨b1, b2, b3⟩ := e2
    subst a1 a2 a3 b1 b2 b3
    simp [Int.add_assoc]
  · subst e1 e2
    simp [Int.add_assoc]
  · obtain ⟨a1, a2⟩ := e1
    obtain ⟨b1, b2⟩ := e2
    subst a1 a2 b1 b2
    simp [Int.add_assoc]
theorem merge_none {l x y z : Evt} (h1 : mergeE l x = none) (h2 : mergeE x y = some z) : mergeE l z = none := by
  cases x <;> cases y <;> simp only [mergeE, reduceCtorEq] at h2
  all_goals
    split at h2 <;> cases h2
    rename_i e2
    cases l <;> simp only [mergeE, ite_eq_right_iff, reduceCtorEq, imp_false] at h1 ⊢
  · obtain ⟨b1, b2, b3⟩ := e2
    subst b1 b2 b3
    exact h1
  · subst e2
    exact h1
  · obtain ⟨b1, b2⟩ := e2
    subst b1 b2
    exact h1
theorem join2 {x y z : Evt} (h : mergeE x y = some z) (f : List Evt) : joinS (joinS f x) y = joinS f z := by
  have last : ∀ (g : List Evt) (e : Evt), (g ++ [e]).getLast? = some e := fun g e => by simp
  have drop : ∀ (g : List Evt) (e : Evt), (g ++ [e]).dropLast = g := fun g e => by simp
  cases hl : f.getLast? with
  | none =>
    have e1 : joinS f x = f ++ [x] := by unfold joinS; rw [hl]
    have e2 : joinS f z = f ++ [z] := by unfold joinS; rw [hl]
    rw [e1, e2]
    unfold joinS
    rw [last]
    dsimp only
    rw [h]
    dsimp only
    rw [drop]
  | some l =>
    cases hm : mergeE l x with
    | none =>
      have e1 : joinS f x = f ++ [x] := by unfold joinS; rw [hl]; dsimp only; rw [hm]
      have e2 : joinS f z = f ++ [z] := by unfold joinS; rw [hl]; dsimp only; rw [merge_none hm h]
      rw [e1, e2]
      unfold joinS
      rw [last]
      dsimp only
      rw [h]
      dsimp only
      rw [drop]
    | some w =>
      obtain ⟨w', h1, h2⟩ := merge_assoc hm h
      have e1 : joinS f x = f.dropLast ++ [w] := by unfold joinS; rw [hl]; dsimp only; rw [hm]
      have e2 : joinS f z = f.dropLast ++ [w'] := by unfold joinS; rw [hl]; dsimp only; rw [h2]
      rw [e1, e2]
      unfold joinS
      rw [last]
      dsimp only
      rw [h1]
      dsimp only
      rw [drop]
/-! ### in pieces -/
structure RowsOk (B : Nat) (rs : List Row) : Prop where
  rows : ∀ r ∈ rs, RowOk r
  len : rs.length ≤ B
  phi : Phi rs ≤ B
theorem Phi_perm {a b : List Row} (p : a.Perm b) : Phi a = Phi b := by
  unfold Phi
  induction p with
  | nil => rfl
  | cons x _ ih => simp only [List.map_cons, List.sum_cons, ih]
  | swap x y l => simp only [List.map_cons, List.sum_cons]; omega
  | trans _ _ h1 h2 => exact h1.trans h2
theorem RowsOk.perm {B : Nat} {a b : List Row} (h : RowsOk B a) (p : a.Perm b) : RowsOk B b := ⟨fun r hr => h.rows r (p.mem_iff.mpr hr), by rw [← p.length_eq]; exact h.len, by rw [← Phi_perm p]; exact h.phi⟩
theorem RowsOk.m {B : Nat} {rows : List Row} (h : RowsOk B rows) {l k : Int} (l0 : 0 ≤ l) (l1 : l < 2 ^ 64) : MOk B ⟨rows, [], l, k⟩ :=
  ⟨h.rows, h.len, l0, l1, h.phi, by have := h.phi; show 0 + 3 * Phi rows ≤ 3 * B + 3; omega, fun _ => by have := h.phi; show 0 + 3 * Phi rows ≤ 3 * B; omega⟩
theorem MOk.r {B : Nat} {st : MSt} (h : MOk B st) : RowsOk B st.rows := ⟨h.rows, h.len, h.phi⟩
/-- what the pieces' run comes to, for the whole one -/
def Joined (c : Com) (band : Option Int) (a0 : Int) (rows : List Row) (L k : Int) (lA : Int) (evs : List Evt) (fB : MSt) (hB : Bool) : Prop := ∃ (kW : Nat) (fW : MSt), meetF c band a0 "rank" kW ⟨rows, [], L, k⟩ = some (fW, hB) ∧ fW.rows.Perm fB.rows ∧ fW.left = lA + fB.left ∧ fW.rank = fB.rank ∧ ∀ f, fW.evts.foldl joinS f = evs.foldl joinS f
theorem meet_go {c : Com} {band : Option Int} {a0 : Int} {st : MSt} {m : Row} {tl : List Row} {k : Nat} (q : 0 < st.left) (hmet : metM st.rows (agM c.side) "rank" = m :: tl) (q1 : letsM c.price c.side m.price = true) (q2 : farM m.price band a0 = false) : meetF c band a0 "rank" (k + 1) st = meetF c band a0 "rank" k (nextM c "rank" st) := by
  show (if 0 < st.left then _ else _) = _
  rw [if_pos q, hmet]
  show (if letsM c.price c.side m.price = true then _ else _) = _
  rw [if_pos q1, if_neg (by rw [q2]; decide)]
theorem meet_end {c : Com} {band : Option Int} {a0 : Int} {st : MSt} {k : Nat} {f : MSt × Bool} (q : ¬ 0 < st.left) (h : meetF c band a0 "rank" k st = some f) : f = (st, false) := by
  cases k with
  | zero => cases h
  | succ k =>
    unfold meetF at h
    rw [if_neg q] at h
    cases h
    rfl
theorem out_back {rows : List Row} {m m' : Row} {k : Int} (okm : RowOk m) (okm' : RowOk m') (u : UR rows k) (hm : m ∈ rows) (hr : m'.rank = m.rank) {rows' : List Row} (p : (outM rows [m] ++ [m']).Perm rows') : (outM rows [m]).Perm (outM rows' [m']) := by
  have p2 : (outM (outM rows [m] ++ [m']) [m']).Perm (outM rows' [m']) := p.filter _
  refine List.Perm.trans ?_ p2
  have e : outM (outM rows [m] ++ [m']) [m'] = outM rows [m] := by
    unfold outM
    rw [List.filter_append]
    have e1 : List.filter (fun r : Row => !([m'].any fun o => PyData.eqv o.dat r.dat)) [m'] = [] := by
      have := (eqv_row m' m').mpr rfl
      simp [this]
    have e2 : List.filter (fun r : Row => !([m'].any fun o => PyData.eqv o.dat r.dat)) (List.filter (fun r : Row => !([m].any fun o => PyData.eqv o.dat r.dat)) rows) = List.filter (fun r : Row => !([m].any fun o => PyData.eqv o.dat r.dat)) rows := by
      refine List.filter_eq_self.mpr fun x hx => ?_
      have hx' : x ∈ outM rows [m] := hx
      obtain ⟨h1, h2⟩ := (out_one okm).mp hx'
      have : ¬ PyData.eqv m'.dat x.dat = true := fun z => by
        have := (eqv_row m' x).mp z
        exact h2 (u.1 x h1 m hm (by rw [← this]; exact hr))
      simp [this]
    rw [e1, e2, List.append_nil]
  rw [e]

end
section
variable [Fam] [Tabz] {P : Program} {w : World} {K : PySem.W.Frag} {mg : Str → Option Value} {base : Heap}
/-! ### what a meeting keeps: sums, numbers, ranks, prices -/
def amtE (m : Int) : Evt → Int
  | .trade b s _ a => if m = b ∨ m = s then a else 0
  | .less r c a => if m = r ∨ m = c then a else 0
  | .off x a => if x = m then a else 0
  | .shown _ _ => 0
def goneOf (m : Int) (es : List Evt) : Int := (es.map (amtE m)).sum
def lf (m : Int) (r : Row) : Int := if r.num = m then r.left else 0
def leftOf (m : Int) (rs : List Row) : Int := (rs.map (lf m)).sum
def priceE : Evt → Option Int
  | .trade _ _ p _ => some p
  | _ => none
def levelsOf (es : List Evt) : List Int := es.filterMap priceE
theorem gone_app (m : Int) (a b : List Evt) : goneOf m (a ++ b) = goneOf m a + goneOf m b := by
  unfold goneOf
  rw [List.map_append, List.sum_append]
theorem left_app (m : Int) (a b : List Row) : leftOf m (a ++ b) = leftOf m a + leftOf m b := by
  unfold leftOf
  rw [List.map_append, List.sum_append]
theorem left_perm (m : Int) {a b : List Row} (p : a.Perm b) : leftOf m a = leftOf m b := by
  unfold leftOf
  induction p with
  | nil => rfl
  | cons x _ ih => rw [List.map_cons, List.map_cons, List.sum_cons, List.sum_cons, ih]
  | swap x y l =>
    simp only [List.map_cons, List.sum_cons]
    omega
  | trans _ _ h1 h2 => exact h1.trans h2
theorem out_permK {rows out keep : List Row} (hR : rows.Perm (out ++ keep)) (nd : (out ++ keep).Nodup) : (outM rows out).Perm keep := by
  have e1 : ∀ r ∈ out, (!(out.any fun o => PyData.eqv o.dat r.dat)) = false := fun r h => by
    rw [List.any_eq_true.mpr ⟨r, h, (eqv_row r r).mpr rfl⟩]
    rfl
  have e2 : ∀ r ∈ keep, (!(out.any fun o => PyData.eqv o.dat r.dat)) = true := fun r h => by
    have : (out.any fun o => PyData.eqv o.dat r.dat) = false := by
      refine Bool.eq_false_iff.mpr fun q => ?_
      obtain ⟨o, ho, e⟩ := List.any_eq_true.mp q
      exact (List.nodup_append.mp nd).2.2 o ho r h ((eqv_row o r).mp e)
    rw [this]
    rfl
  refine (hR.filter _).trans ?_
  rw [List.filter_append, List.filter_eq_nil_iff.mpr fun r hr => by rw [e1 r hr]; exact Bool.false_ne_true, List.nil_append, List.filter_eq_self.mpr e2]
theorem sub_permK {α : Type} {ps : List α} : ∀ {ms : List α}, ms.Nodup → (∀ m ∈ ms, m ∈ ps) → ∃ l, ps.Perm (ms ++ l)
  | [], _, _ => ⟨ps, List.Perm.refl _⟩
  | m :: ms, nd, h => by
    rw [List.nodup_cons] at nd
    obtain ⟨l, hl⟩ := sub_permK nd.2 fun x hx => h x (List.mem_cons_of_mem _ hx)
    have hm : m ∈ l := (List.mem_append.mp (hl.mem_iff.mp (h m List.mem_cons_self))).resolve_left nd.1
    obtain ⟨u, v, rfl⟩ := List.append_of_mem hm
    exact ⟨u ++ v, hl.trans ((List.perm_middle.append_left ms).trans List.perm_middle)⟩
theorem nodup_numsK {rs : List Row} (h : (rs.map Row.num).Nodup) : rs.Nodup := by
  unfold List.Nodup at h ⊢
  rw [List.pairwise_map] at h
  exact h.imp fun h e => h (by rw [e])
/-- the same order, seen of who, side, price, number -/
def SameR (a b : Row) : Prop := a.num = b.num ∧ a.who = b.who ∧ a.side = b.side ∧ a.price = b.price
structure StepK (c : Com) (ms : List Row) (left rank : Int) (r : Res) : Prop where
  src : ∀ b ∈ r.back, ∃ m ∈ r.out, SameR m b
  nums : (r.back.map Row.num).Sublist (r.out.map Row.num)
  bal : ∀ m, m ≠ c.num → leftOf m r.out = leftOf m r.back + goneOf m r.told
  own : left = r.left + goneOf c.num r.told
  rk : rank ≤ r.rank ∧ ∀ b ∈ r.back, b.rank < r.rank
  tr : ∀ e ∈ r.told, (∃ x, priceE e = some x) → ∃ m ∈ ms, ∃ x, e = tradeE c (m, x) ∧ m.who ≠ c.who ∧ 1 ≤ x
theorem anew_K : ∀ (ps : List (Row × Int)) (a : List Evt × List Row × Int), (∀ p ∈ ps, RowOk p.1 ∧ 0 < p.2 ∧ p.2 ≤ p.1.seen ∧ p.1.rank < a.2.2) → ∃ (sh : List Evt) (back : List Row) (k : Int), (ps.map fun p => seenM p.1 p.2).foldl anewS a = (a.1 ++ sh, a.2.1 ++ back, k) ∧ a.2.2 ≤ k ∧ (∀ e ∈ sh, ∃ m n, e = Evt.shown m n) ∧
    (back.map Row.num).Sublist (ps.map fun p => p.1.num) ∧ (∀ b ∈ back, (∃ p ∈ ps, SameR p.1 b) ∧ b.rank < k) ∧ ∀ m, leftOf m back = (ps.map fun p => if p.1.num = m then p.1.left - p.2 else 0).sum
  | [], a, _ => ⟨[], [], a.2.2, by simp, Int.le_refl _, fun e h => (by cases h), List.Sublist.refl _, fun b h => (by cases h), fun m => rfl⟩
  | (r, x) :: ps, a, h => by
    obtain ⟨okr, x0, x1, rk⟩ := h (r, x) List.mem_cons_self
    obtain ⟨s1, s2, _, s4, s5, _, _⟩ := okr
    dsimp only at s1 s2 s4 s5 x0 x1 rk
    have hs : (seenM r x).seen = if r.seen - x > 0 then r.seen - x else 0 := rfl
    have hl' : (seenM r x).left = r.left - x := rfl
    have go : ∀ a' : List Evt × List Row × Int, (∀ p ∈ ps, p.1.rank < a.2.2) → a.2.2 ≤ a'.2.2 → ∀ p ∈ ps, RowOk p.1 ∧ 0 < p.2 ∧ p.2 ≤ p.1.seen ∧ p.1.rank < a'.2.2 := fun a' h1 h2 p hp => by
      obtain ⟨q1, q2, q3, _⟩ := h p (List.mem_cons_of_mem _ hp)
      exact ⟨q1, q2, q3, by have := h1 p hp; omega⟩
    have hps : ∀ p ∈ ps, p.1.rank < a.2.2 := fun p hp => (h p (List.mem_cons_of_mem _ hp)).2.2.2
    rw [List.map_cons, List.foldl_cons]
    show ∃ sh back k, (ps.map fun p => seenM p.1 p.2).foldl anewS (anewS a (seenM r x)) = _ ∧ _
    by_cases z : r.seen - x > 0
    · have e1 : anewS a (seenM r x) = (a.1, a.2.1 ++ [seenM r x], a.2.2) := by
        unfold anewS
        rw [if_pos (by rw [hs, if_pos z]; exact z)]
      rw [e1]
      obtain ⟨sh, back, k, e, q1, q2, q3, q4, q5⟩ := anew_K ps (a.1, a.2.1 ++ [seenM r x], a.2.2) (go _ hps (Int.le_refl _))
      refine ⟨sh, seenM r x :: back, k, by rw [e]; simp, q1, q2, q3.cons_cons r.num, fun b hb => ?_, fun m => ?_⟩
      · rcases List.mem_cons.mp hb with e | e
        · rw [e]
          exact ⟨⟨(r, x), List.mem_cons_self, rfl, rfl, rfl, rfl⟩, by show r.rank < k; have : a.2.2 ≤ k := q1; omega⟩
        · obtain ⟨⟨p, hp, sp⟩, w⟩ := q4 b e
          exact ⟨⟨p, List.mem_cons_of_mem _ hp, sp⟩, w⟩
      · have := q5 m
        unfold leftOf at this ⊢
        rw [List.map_cons, List.sum_cons, List.map_cons, List.sum_cons, this]
        rfl
    · have az : x = r.seen := by omega
      by_cases z2 : r.left - x > 0
      · have e1 : anewS a (seenM r x) = (a.1 ++ [.shown r.num (partM (seenM r x).part (r.left - x))], a.2.1 ++ [{ seenM r x with seen := partM (seenM r x).part (r.left - x), rank := a.2.2 }], a.2.2 + 1) := by
          unfold anewS
          rw [if_neg (by rw [hs, if_neg z]; omega), if_pos (by rw [hl']; exact z2)]
          rfl
        have q0 : ∃ m n, Evt.shown r.num (partM (seenM r x).part (r.left - x)) = Evt.shown m n := ⟨_, _, rfl⟩
        have f1 : SameR r ({ seenM r x with seen := partM (seenM r x).part (r.left - x), rank := a.2.2 } : Row) := ⟨rfl, rfl, rfl, rfl⟩
        have f2 : ({ seenM r x with seen := partM (seenM r x).part (r.left - x), rank := a.2.2 } : Row).rank = a.2.2 := rfl
        have f3 : ∀ m, lf m ({ seenM r x with seen := partM (seenM r x).part (r.left - x), rank := a.2.2 } : Row) = if r.num = m then r.left - x else 0 := fun m => rfl
        generalize ({ seenM r x with seen := partM (seenM r x).part (r.left - x), rank := a.2.2 } : Row) = nb at e1 f1 f2 f3
        generalize Evt.shown r.num (partM (seenM r x).part (r.left - x)) = ne at e1 q0
        rw [e1]
        obtain ⟨sh, back, k, e, q1, q2, q3, q4, q5⟩ := anew_K ps (a.1 ++ [ne], a.2.1 ++ [nb], a.2.2 + 1) (go _ hps (by show a.2.2 ≤ a.2.2 + 1; omega))
        have q1 : a.2.2 + 1 ≤ k := q1
        refine ⟨ne :: sh, nb :: back, k, by rw [e]; simp, by omega, fun e he => ?_, ?_, fun b hb => ?_, fun m => ?_⟩
        · rcases List.mem_cons.mp he with w | w
          · rw [w]
            exact q0
          · exact q2 e w
        · rw [List.map_cons, List.map_cons, ← f1.1]
          exact q3.cons_cons r.num
        · rcases List.mem_cons.mp hb with e | e
          · rw [e]
            exact ⟨⟨(r, x), List.mem_cons_self, f1⟩, by omega⟩
          · obtain ⟨⟨p, hp, sp⟩, w⟩ := q4 b e
            exact ⟨⟨p, List.mem_cons_of_mem _ hp, sp⟩, w⟩
        · have := q5 m
          unfold leftOf at this ⊢
          rw [List.map_cons, List.sum_cons, List.map_cons, List.sum_cons, this, f3]
      · have e1 : anewS a (seenM r x) = a := by
          unfold anewS
          rw [if_neg (by rw [hs, if_neg z]; omega), if_neg (by rw [hl']; exact z2)]
        rw [e1]
        obtain ⟨sh, back, k, e, q1, q2, q3, q4, q5⟩ := anew_K ps a (go _ hps (Int.le_refl _))
        refine ⟨sh, back, k, e, q1, q2, q3.cons r.num, fun b hb => ?_, fun m => ?_⟩
        · obtain ⟨⟨p, hp, sp⟩, w⟩ := q4 b hb
          exact ⟨⟨p, List.mem_cons_of_mem _ hp, sp⟩, w⟩
        · rw [q5 m, List.map_cons, List.sum_cons]
          have : (if r.num = m then r.left - x else 0) = 0 := by split <;> omega
          show _ = (if r.num = m then r.left - x else 0) + _
          omega
theorem amt_trade (c : Com) (p : Row × Int) (m : Int) : amtE m (tradeE c p) = if m = c.num ∨ m = p.1.num then p.2 else 0 := by
  unfold tradeE
  split
  · rfl
  · show (if m = p.1.num ∨ m = c.num then p.2 else 0) = _
    by_cases h : m = p.1.num <;> by_cases h2 : m = c.num <;> simp [h, h2]
theorem gone_shown {es : List Evt} (h : ∀ e ∈ es, ∃ m n, e = Evt.shown m n) (m : Int) : goneOf m es = 0 := by
  induction es with
  | nil => rfl
  | cons e es ih =>
    obtain ⟨x, y, rfl⟩ := h e List.mem_cons_self
    have := ih fun e he => h e (List.mem_cons_of_mem _ he)
    unfold goneOf at this ⊢
    rw [List.map_cons, List.sum_cons, this]
    rfl
theorem gone_trades (c : Com) (m : Int) (ps : List (Row × Int)) : goneOf m (ps.map (tradeE c)) = (ps.map fun p => if m = c.num ∨ m = p.1.num then p.2 else 0).sum := by
  unfold goneOf
  rw [List.map_map]
  congr 1
  refine List.map_congr_left fun p _ => amt_trade c p m
theorem trades_K {ms : List Row} {c : Com} {left rank : Int} (ok : ∀ r ∈ ms, RowOk r) (hl : 0 < left) (hr : ∀ r ∈ ms, r.rank < rank) (hw : ∀ r ∈ ms, r.who ≠ c.who) (hn : ∀ r ∈ ms, r.num ≠ c.num) : StepK c ms left rank (tradesM ms c left rank) := by
  have S := shares_ok (left := left) (seen := seenOf ms) (by omega) fun x hx => by
    obtain ⟨r, hr, rfl⟩ := List.mem_map.mp hx
    exact (ok r hr).1
  have hlen : (sharesM left (seenOf ms)).length = ms.length := by rw [S.len]; exact List.length_map _
  unfold tradesM
  generalize sharesM left (seenOf ms) = am at S hlen ⊢
  have hp : ∀ p ∈ tradesOf ms am, p.1 ∈ ms ∧ 0 < p.2 ∧ p.2 ≤ p.1.seen := fun p hp => by
    obtain ⟨h1, h2⟩ := List.mem_filter.mp hp
    have h2 : 0 < p.2 := of_decide_eq_true h2
    obtain ⟨i, hi⟩ := List.mem_iff_getElem?.mp h1
    obtain ⟨g1, g2⟩ := List.getElem?_zip_eq_some.mp hi
    have g3 : (seenOf ms)[i]? = some p.1.seen := by
      unfold seenOf
      rw [List.getElem?_map, g1]
      rfl
    exact ⟨List.mem_of_getElem? g1, h2, (S.le i p.2 p.1.seen g2 g3).2⟩
  have hsum : ((tradesOf ms am).map Prod.snd).sum = am.sum := by
    have : ∀ (ms : List Row) (am : List Int), am.length = ms.length → (∀ a ∈ am, 0 ≤ a) → ((tradesOf ms am).map Prod.snd).sum = am.sum := by
      intro ms
      induction ms with
      | nil =>
        intro am h _
        rw [List.length_eq_zero_iff.mp h]
        rfl
      | cons r ms ih =>
        intro am h h0
        cases am with
        | nil => cases h
        | cons x am =>
          have := ih am (by simpa using h) fun a ha => h0 a (List.mem_cons_of_mem _ ha)
          have x0 := h0 x List.mem_cons_self
          unfold tradesOf at this ⊢
          rw [List.zip_cons_cons, List.filter_cons]
          by_cases q : 0 < x
          · rw [if_pos (decide_eq_true q), List.map_cons, List.sum_cons, this, List.sum_cons]
          · rw [if_neg (fun z => q (of_decide_eq_true z)), this, List.sum_cons]
            omega
    refine this ms am hlen fun a ha => ?_
    obtain ⟨i, hi⟩ := List.mem_iff_getElem?.mp ha
    have hi2 : i < (seenOf ms).length := by
      have := (List.getElem?_eq_some_iff.mp hi).1
      rwa [S.len] at this
    exact (S.le i a _ hi (List.getElem?_eq_getElem hi2)).1
  generalize tradesOf ms am = ps at hp hsum ⊢
  obtain ⟨sh, back, k, e, q1, q2, q3, q4, q5⟩ := anew_K ps ([], [], rank) fun p h => ⟨ok p.1 (hp p h).1, (hp p h).2.1, (hp p h).2.2, hr p.1 (hp p h).1⟩
  have e' : anewM (ps.map fun p => seenM p.1 p.2) rank = (sh, back, k) := by
    unfold anewM
    rw [e]
    simp
  dsimp only
  rw [e']
  refine ⟨fun b hb => ?_, ?_, fun m hm => ?_, ?_, ⟨q1, fun b hb => (q4 b hb).2⟩, fun e he ⟨x, ex⟩ => ?_⟩
  · obtain ⟨⟨p, hp1, sp⟩, _⟩ := q4 b hb
    exact ⟨p.1, List.mem_map.mpr ⟨p, hp1, rfl⟩, sp⟩
  · show (back.map Row.num).Sublist ((ps.map Prod.fst).map Row.num)
    rw [List.map_map]
    exact q3
  · show leftOf m (ps.map Prod.fst) = leftOf m back + goneOf m (ps.map (tradeE c) ++ sh)
    rw [gone_app, gone_shown q2, gone_trades, q5]
    unfold leftOf
    rw [List.map_map]
    clear e e' q1 q2 q3 q4 q5 hsum
    induction ps with
    | nil => rfl
    | cons p ps ih =>
      have := ih fun p h => hp p (List.mem_cons_of_mem _ h)
      simp only [List.map_cons, List.sum_cons] at this ⊢
      rw [show (lf m ∘ Prod.fst) p = if p.1.num = m then p.1.left else 0 from rfl]
      by_cases h : p.1.num = m
      · rw [if_pos h, if_pos h, if_pos (.inr h.symm)]
        omega
      · rw [if_neg h, if_neg h, if_neg (fun z => z.elim hm fun z => h z.symm)]
        omega
  · show left = left - am.sum + goneOf c.num (ps.map (tradeE c) ++ sh)
    rw [gone_app, gone_shown q2, gone_trades]
    have : (ps.map fun p => if c.num = c.num ∨ c.num = p.1.num then p.2 else 0) = ps.map Prod.snd := List.map_congr_left fun p _ => if_pos (.inl rfl)
    rw [this, hsum]
    omega
  · have he : e ∈ ps.map (tradeE c) ++ sh := he
    rcases List.mem_append.mp he with w | w
    · obtain ⟨p, hp1, rfl⟩ := List.mem_map.mp w
      exact ⟨p.1, (hp p hp1).1, p.2, rfl, hw p.1 (hp p hp1).1, (hp p hp1).2.1⟩
    · obtain ⟨m, n, rfl⟩ := q2 e w
      cases ex
theorem own_K {ms : List Row} {m : Row} {c : Com} {left rank : Int} (hm : m ∈ ms) (ok : RowOk m) (hl : 0 < left) (hg : GuardOk c.guard) (hr : m.rank < rank) (hn : m.num ≠ c.num) : StepK c ms left rank (ownM m c left rank) := by
  have one : ∀ x, leftOf x [m] = if m.num = x then m.left else 0 := fun x => by
    show (if m.num = x then m.left else 0) + 0 = _
    omega
  have gone1 : ∀ x e, goneOf x [e] = amtE x e := fun x e => by
    show amtE x e + 0 = _
    omega
  rcases hg with e | e | e | e
  · rw [ownE_old e]
    refine ⟨fun b h => (by cases h), List.nil_sublist _, fun x hx => ?_, ?_, ⟨Int.le_refl _, fun b h => (by cases h)⟩, fun e he ⟨x, ex⟩ => ?_⟩
    · show leftOf x [m] = 0 + goneOf x [.off m.num m.left]
      rw [one, gone1]
      show _ = 0 + if m.num = x then m.left else 0
      omega
    · show left = left + goneOf c.num [.off m.num m.left]
      rw [gone1]
      show left = left + if m.num = c.num then m.left else 0
      rw [if_neg hn]
      omega
    · rw [List.mem_singleton.mp he] at ex
      cases ex
  · rw [ownE_new e]
    refine ⟨fun b h => (by cases h), List.nil_sublist _, fun x hx => ?_, ?_, ⟨Int.le_refl _, fun b h => (by cases h)⟩, fun e he ⟨x, ex⟩ => ?_⟩
    · show (0 : Int) = 0 + goneOf x [.off c.num left]
      rw [gone1]
      show (0 : Int) = 0 + if c.num = x then left else 0
      rw [if_neg (fun z => hx z.symm)]
      rfl
    · show left = 0 + goneOf c.num [.off c.num left]
      rw [gone1]
      show left = 0 + if c.num = c.num then left else 0
      rw [if_pos rfl]
      omega
    · rw [List.mem_singleton.mp he] at ex
      cases ex
  · rw [ownE_both e]
    refine ⟨fun b h => (by cases h), List.nil_sublist _, fun x hx => ?_, ?_, ⟨Int.le_refl _, fun b h => (by cases h)⟩, fun e he ⟨x, ex⟩ => ?_⟩
    · show leftOf x [m] = 0 + goneOf x ([.off m.num m.left] ++ [.off c.num left])
      rw [one, gone_app, gone1, gone1]
      show _ = 0 + ((if m.num = x then m.left else 0) + if c.num = x then left else 0)
      rw [if_neg (show ¬ c.num = x from fun z => hx z.symm)]
      omega
    · show left = 0 + goneOf c.num ([.off m.num m.left] ++ [.off c.num left])
      rw [gone_app, gone1, gone1]
      show left = 0 + ((if m.num = c.num then m.left else 0) + if c.num = c.num then left else 0)
      rw [if_neg hn, if_pos rfl]
      omega
    · have he : e ∈ [Evt.off m.num m.left, .off c.num left] := he
      rcases List.mem_cons.mp he with w | w
      · rw [w] at ex
        cases ex
      · rw [List.mem_singleton.mp w] at ex
        cases ex
  · rw [ownE_less e]
    unfold lessR
    have hmin : 0 < minM left m.left ∧ minM left m.left ≤ m.left := by
      obtain ⟨h1, h2, _⟩ := ok
      unfold minM
      split <;> omega
    generalize minM left m.left = a at hmin
    obtain ⟨a0, a1⟩ := hmin
    have hs : (hidM m a).seen = if m.left - a < m.seen then m.left - a else m.seen := rfl
    have hl' : (hidM m a).left = m.left - a := rfl
    have s1 := ok.1
    have an : anewM [hidM m a] rank = ([], if 0 < m.left - a then [hidM m a] else [], rank) := by
      rw [anew_one, hs, hl']
      by_cases z : 0 < m.left - a
      · rw [if_pos (by split <;> omega), if_pos z]
      · rw [if_neg (by split <;> omega), if_neg (by omega), if_neg z]
    rw [an]
    refine ⟨fun b hb => ?_, ?_, fun x hx => ?_, ?_, ⟨Int.le_refl _, fun b hb => ?_⟩, fun e he ⟨x, ex⟩ => ?_⟩
    · have hb : b ∈ (if 0 < m.left - a then [hidM m a] else []) := hb
      split at hb
      · rw [List.mem_singleton.mp hb]
        exact ⟨m, List.mem_singleton.mpr rfl, rfl, rfl, rfl, rfl⟩
      · cases hb
    · show ((if 0 < m.left - a then [hidM m a] else []).map Row.num).Sublist [m.num]
      split
      · exact List.Sublist.refl _
      · exact List.nil_sublist _
    · show leftOf x [m] = leftOf x (if 0 < m.left - a then [hidM m a] else []) + goneOf x [.less m.num c.num a]
      rw [one, gone1]
      show _ = _ + if x = m.num ∨ x = c.num then a else 0
      have e2 : leftOf x (if 0 < m.left - a then [hidM m a] else []) = if m.num = x then m.left - a else 0 := by
        by_cases z : 0 < m.left - a
        · rw [if_pos z]
          show (if m.num = x then m.left - a else 0) + 0 = _
          omega
        · rw [if_neg z]
          show (0 : Int) = _
          split <;> omega
      rw [e2]
      by_cases h : m.num = x
      · rw [if_pos h, if_pos h, if_pos (.inl h.symm)]
        omega
      · rw [if_neg h, if_neg h, if_neg (fun z => z.elim (fun z => h z.symm) hx)]
        omega
    · show left = left - a + goneOf c.num [.less m.num c.num a]
      rw [gone1]
      show left = left - a + if c.num = m.num ∨ c.num = c.num then a else 0
      rw [if_pos (.inr rfl)]
      omega
    · have hb : b ∈ (if 0 < m.left - a then [hidM m a] else []) := hb
      split at hb
      · rw [List.mem_singleton.mp hb]
        exact hr
      · cases hb
    · have he : e ∈ [Evt.less m.num c.num a] ++ [] := he
      rw [List.append_nil] at he
      rw [List.mem_singleton.mp he] at ex
      cases ex
theorem step_K {ms : List Row} {c : Com} {left rank : Int} (ok : ∀ r ∈ ms, RowOk r) (hl : 0 < left) (hg : GuardOk c.guard) (hr : ∀ r ∈ ms, r.rank < rank) (hn : ∀ r ∈ ms, r.num ≠ c.num) : StepK c ms left rank (stepM ms c left rank) := by
  unfold stepM
  cases e : ms.find? (fun r => decide (r.who = c.who)) with
  | some m =>
    have hm := List.mem_of_find?_eq_some e
    exact own_K hm (ok m hm) hl hg (hr m hm) (hn m hm)
  | none => exact trades_K ok hl hr (fun r h z => by
      have := List.find?_eq_none.mp e r h
      exact this (decide_eq_true z)) hn
/-- the rows that are met: of the side, of its best price -/
theorem met_best {rows : List Row} {s rule : Str} {m : Row} (h : m ∈ metM rows s rule) : m.side = s ∧ ∀ r ∈ rows, r.side = s → betM s m.price r.price := by
  have hl : m ∈ levelM rows s := by
    unfold metM at h
    split at h
    · cases h
    · split at h
      · exact h
      · exact List.mem_of_mem_take h
  unfold levelM at hl
  obtain ⟨h1, h2⟩ := List.mem_filter.mp (List.mem_mergeSort.mp hl)
  have h2 := of_decide_eq_true h2
  refine ⟨of_decide_eq_true (List.mem_filter.mp h1).2, fun r hr hs => ?_⟩
  rw [h2]
  exact best_bet (List.mem_map.mpr ⟨r, List.mem_filter.mpr ⟨hr, decide_eq_true hs⟩, rfl⟩)
structure K11 (rows0 : List Row) (c : Com) (left0 rank0 : Int) (band : Option Int) (a : Int) (st : MSt) : Prop where
  nd : (st.rows.map Row.num).Nodup
  src : ∀ r ∈ st.rows, ∃ r0 ∈ rows0, SameR r0 r
  bal : ∀ m, m ≠ c.num → leftOf m rows0 = leftOf m st.rows + goneOf m st.evts
  own : left0 = st.left + goneOf c.num st.evts
  rk : rank0 ≤ st.rank ∧ ∀ r ∈ st.rows, r.rank < st.rank
  tr : ∀ e ∈ st.evts, (∃ x, priceE e = some x) → ∃ r0 ∈ rows0, ∃ x, e = tradeE c (r0, x) ∧ r0.who ≠ c.who ∧ r0.side = agM c.side ∧ letsM c.price c.side r0.price = true ∧ farM r0.price band a = false ∧ 1 ≤ x
  lev : (levelsOf st.evts).Pairwise (betM (agM c.side))
  last : ∀ p ∈ levelsOf st.evts, ∀ r ∈ st.rows, r.side = agM c.side → betM (agM c.side) p r.price
theorem price_trade (c : Com) (p : Row × Int) : priceE (tradeE c p) = some p.1.price := by
  unfold tradeE
  split <;> rfl
theorem trade_same (c : Com) {a b : Row} (h : SameR a b) (x : Int) : tradeE c (b, x) = tradeE c (a, x) := by
  obtain ⟨h1, _, _, h4⟩ := h
  unfold tradeE
  dsimp only
  rw [h1, h4]
theorem next_K {rows0 : List Row} {c : Com} {left0 rank0 : Int} {band : Option Int} {a : Int} {rule : Str} {B : Nat} {st : MSt} (hg : GuardOk c.guard) (hA : AOk B st) (h0 : ∀ r ∈ rows0, r.num ≠ c.num) (K : K11 rows0 c left0 rank0 band a st) (hl : 0 < st.left)
    {m : Row} {tl : List Row} (hmet : metM st.rows (agM c.side) rule = m :: tl) (q1 : letsM c.price c.side m.price = true) (q2 : farM m.price band a = false) : K11 rows0 c left0 rank0 band a (nextM c rule st) := by
  have hmem : ∀ x ∈ m :: tl, x ∈ st.rows := fun x hx => met_mem (by rw [hmet]; exact hx)
  have hbest : ∀ x ∈ m :: tl, x.side = agM c.side ∧ ∀ r ∈ st.rows, r.side = agM c.side → betM (agM c.side) x.price r.price := fun x hx => met_best (rule := rule) (by rw [hmet]; exact hx)
  have hpr : ∀ x ∈ m :: tl, x.price = m.price := fun x hx => bet_antisymm ((hbest x hx).2 m (hmem m List.mem_cons_self) (hbest m List.mem_cons_self).1) ((hbest m List.mem_cons_self).2 x (hmem x hx) (hbest x hx).1)
  have hnum : ∀ r ∈ st.rows, r.num ≠ c.num := fun r hr => by
    obtain ⟨r0, h1, h2, _⟩ := K.src r hr
    rw [← h2]
    exact h0 r0 h1
  have S := step_A (c := c) (rank := st.rank) (ms := m :: tl) (left := st.left) (fun r hr => hA.rows r (hmem r hr)) (by simp) hl hg
  have T := step_K (c := c) (rank := st.rank) (ms := m :: tl) (left := st.left) (fun r hr => hA.rows r (hmem r hr)) hl hg (fun r hr => K.rk.2 r (hmem r hr)) (fun r hr => hnum r (hmem r hr))
  have ndr : st.rows.Nodup := nodup_numsK K.nd
  have ndm : (m :: tl).Nodup := by
    obtain ⟨qq, L, g1, g2⟩ := met_sub (rows := st.rows) (s := agM c.side) (rule := rule)
    rw [hmet] at g1
    exact g1.nodup (g2.nodup_iff.mpr (List.filter_sublist.nodup ndr))
  rw [show nextM c rule st = ⟨outM st.rows (stepM (m :: tl) c st.left st.rank).out ++ (stepM (m :: tl) c st.left st.rank).back, st.evts ++ (stepM (m :: tl) c st.left st.rank).told, (stepM (m :: tl) c st.left st.rank).left, (stepM (m :: tl) c st.left st.rank).rank⟩ by rw [← hmet]; rfl]
  generalize stepM (m :: tl) c st.left st.rank = res at S T
  have ndo : res.out.Nodup := S.sub.nodup ndm
  obtain ⟨keep, hk⟩ := sub_permK ndo fun x hx => hmem x (S.sub.subset hx)
  have ndok : (res.out ++ keep).Nodup := hk.nodup_iff.mp ndr
  have po := out_permK hk ndok
  have nn : ((res.out ++ keep).map Row.num).Nodup := ((hk.map Row.num).nodup_iff).mp K.nd
  have inR : ∀ r, r ∈ outM st.rows res.out ++ res.back → ∃ r1 ∈ st.rows, SameR r1 r := fun r hr => by
    rcases List.mem_append.mp hr with w | w
    · exact ⟨r, (List.mem_filter.mp w).1, rfl, rfl, rfl, rfl⟩
    · obtain ⟨x, hx, sx⟩ := T.src r w
      exact ⟨x, hmem x (S.sub.subset hx), sx⟩
  have lv : ∀ p ∈ levelsOf res.told, p = m.price := fun p hp => by
    obtain ⟨e, he, ep⟩ := List.mem_filterMap.mp hp
    obtain ⟨x, hx, y, rfl, _⟩ := T.tr e he ⟨p, ep⟩
    rw [price_trade] at ep
    cases ep
    exact hpr x hx
  have lev2 : levelsOf (st.evts ++ res.told) = levelsOf st.evts ++ levelsOf res.told := List.filterMap_append
  have bet_refl : ∀ p, betM (agM c.side) p p := fun p => by
    unfold betM
    split <;> exact Int.le_refl _
  refine ⟨?_, fun r hr => ?_, fun x hx => ?_, ?_, ⟨Int.le_trans K.rk.1 T.rk.1, fun r hr => ?_⟩, fun e he hp => ?_, ?_, fun p hp r hr hs => ?_⟩
  · show ((outM st.rows res.out ++ res.back).map Row.num).Nodup
    rw [List.map_append] at nn ⊢
    have p1 : ((outM st.rows res.out).map Row.num ++ res.back.map Row.num).Perm (res.back.map Row.num ++ keep.map Row.num) := List.perm_append_comm.trans ((po.map Row.num).append_left _)
    exact p1.nodup_iff.mpr ((T.nums.append_right _).nodup nn)
  · obtain ⟨r1, h1, s1⟩ := inR r hr
    obtain ⟨r0, h2, s2⟩ := K.src r1 h1
    exact ⟨r0, h2, s2.1.trans s1.1, s2.2.1.trans s1.2.1, s2.2.2.1.trans s1.2.2.1, s2.2.2.2.trans s1.2.2.2⟩
  · show _ = leftOf x (outM st.rows res.out ++ res.back) + goneOf x (st.evts ++ res.told)
    rw [left_app, gone_app, left_perm x po, K.bal x hx, left_perm x hk, left_app, T.bal x hx]
    omega
  · show left0 = res.left + goneOf c.num (st.evts ++ res.told)
    rw [gone_app, K.own]
    have := T.own
    omega
  · have hr : r ∈ outM st.rows res.out ++ res.back := hr
    show r.rank < res.rank
    rcases List.mem_append.mp hr with w | w
    · have := K.rk.2 r (List.mem_filter.mp w).1
      have := T.rk.1
      omega
    · exact T.rk.2 r w
  · have he : e ∈ st.evts ++ res.told := he
    rcases List.mem_append.mp he with w | w
    · exact K.tr e w hp
    · obtain ⟨x, hx, y, rfl, hw, y1⟩ := T.tr e w hp
      obtain ⟨r0, h1, s1⟩ := K.src x (hmem x hx)
      have ep : r0.price = m.price := s1.2.2.2.trans (hpr x hx)
      exact ⟨r0, h1, y, trade_same c s1 y, fun z => hw (s1.2.1.symm.trans z), s1.2.2.1.trans (hbest x hx).1, by rw [ep]; exact q1, by rw [ep]; exact q2, y1⟩
  · show (levelsOf (st.evts ++ res.told)).Pairwise _
    rw [lev2, List.pairwise_append]
    refine ⟨K.lev, ?_, fun p hp q hq => ?_⟩
    · have : ∀ l : List Int, (∀ p ∈ l, p = m.price) → l.Pairwise (betM (agM c.side)) := fun l => by
        induction l with
        | nil => intro _; exact .nil
        | cons p l ih =>
          intro h
          refine .cons (fun q hq => ?_) (ih fun q hq => h q (List.mem_cons_of_mem _ hq))
          rw [h p List.mem_cons_self, h q (List.mem_cons_of_mem _ hq)]
          exact bet_refl _
      exact this _ lv
    · rw [lv q hq]
      exact K.last p hp m (hmem m List.mem_cons_self) (hbest m List.mem_cons_self).1
  · have hp : p ∈ levelsOf (st.evts ++ res.told) := hp
    rw [lev2] at hp
    obtain ⟨r1, h1, s1⟩ := inR r hr
    rw [← s1.2.2.2]
    rcases List.mem_append.mp hp with w | w
    · exact K.last p w r1 h1 (s1.2.2.1.trans hs)
    · rw [lv p w]
      exact (hbest m List.mem_cons_self).2 r1 h1 (s1.2.2.1.trans hs)
theorem meet_K {rows0 : List Row} {c : Com} {left0 rank0 : Int} {band : Option Int} {a : Int} {rule : Str} {B : Nat} (hg : GuardOk c.guard) (h0 : ∀ r ∈ rows0, r.num ≠ c.num) : ∀ (k : Nat) {st : MSt} {fin : MSt × Bool}, AOk B st → K11 rows0 c left0 rank0 band a st → meetF c band a rule k st = some fin → AOk B fin.1 ∧ K11 rows0 c left0 rank0 band a fin.1
  | 0, st, fin, _, _, h => by cases h
  | k + 1, st, fin, hA, K, h => by
    have h : (if 0 < st.left then _ else _) = some fin := h
    by_cases q : 0 < st.left
    · rw [if_pos q] at h
      have nx := fun e => next_A (c := c) (rule := rule) hA e q hg
      cases e : metM st.rows (agM c.side) rule with
      | nil =>
        rw [e] at h
        cases h
        exact ⟨hA, K⟩
      | cons m tl =>
        rw [e] at h
        have h : (if letsM c.price c.side m.price = true then _ else _) = some fin := h
        by_cases q1 : letsM c.price c.side m.price = true
        · rw [if_pos q1] at h
          by_cases q2 : farM m.price band a = true
          · rw [if_pos q2] at h
            cases h
            exact ⟨hA, K⟩
          · rw [if_neg q2] at h
            exact meet_K hg h0 k (nx (by rw [e]; simp)).1 (next_K hg hA h0 K q e q1 ((Bool.not_eq_true _).mp q2)) h
        · rw [if_neg q1] at h
          cases h
          exact ⟨hA, K⟩
    · rw [if_neg q] at h
      cases h
      exact ⟨hA, K⟩
theorem start_K {rows : List Row} {c : Com} {left rank : Int} {band : Option Int} {a : Int} (nd : (rows.map Row.num).Nodup) (rk : ∀ r ∈ rows, r.rank < rank) : K11 rows c left rank band a ⟨rows, [], left, rank⟩ :=
  ⟨nd, fun r hr => ⟨r, hr, rfl, rfl, rfl, rfl⟩, fun m _ => by show _ = leftOf m rows + 0; omega, by show left = left + 0; omega, ⟨Int.le_refl _, rk⟩, fun e he => (by cases he), .nil, fun p hp => (by cases hp)⟩

end
/-! ### the family of purses -/
instance basP : Bas where
  Tq := fun _ t H n => ∀ a, t = .ref a → Pu H a n
  Pq := fun _ t a => t = .ref a
  mv := fun g k a e => by
    obtain ⟨o, s, c, h, r⟩ := g a e
    exact ⟨o, s, c, k _ _ e h, r⟩
  ty := fun g e => by
    obtain ⟨o, s, c, h, r⟩ := g _ e
    exact ⟨_, h⟩
@[reducible] instance famP : Fam := famB
instance quietP : Quiet := ⟨fun g => g⟩

section
variable {P : Program} {w : World} {K : PySem.W.Frag} {mg : Str → Option Value} {base : Heap}
abbrev s_law_purse : Stmt := topS 25
theorem sc_law_purse : FnScope ["script", "k", "cell", "own"] ["script", "k"] (defScope s_law_purse) := ⟨rfl, rfl, rfl, by decide +kernel, rfl, by decide +kernel, by decide +kernel⟩
theorem ok_purse {f : Addr} {fd : FuncData} (F : Fun K "_law_purse" "_law_purse" s_law_purse f fd) (T : Txt mg) : FnOk P w K mg base CX0 1 f fd ["script", "k"] (spPurse K) := by
  refine F.ok sc_law_purse (fun vs H Q E h => ?_) (fun cdv A outer s H vs Q E hr h => ?_)
  · obtain ⟨a, ns, k, rfl, _⟩ := h
    rfl
  · obtain ⟨a, ns, k, rfl, hS, hlen, hk0, hk1, q⟩ := h
    refine ⟨_, (pss_cons (ps_set (i := 2) sc_law_purse.nd rfl (Or.inl rfl) (pe_op op_add (pe_op op_mul pe_int (pv 1)) pe_int))
          (pss_cons (ps_if (pt_cmpR op_lt (pv 1) (pe_callB call_len_seq (by rfl) T.b_len PySem.boot_len (pa_cons (pv 0) pa_nil)) (nomark _)) (pss_one (ps_set (i := 2) sc_law_purse.nd rfl (Or.inl rfl) (pe_ix (r := rIxL K) ix_list (pv 0) (pv 1) (fun _ _ => rfl)))) pss_nil)
          (pss_cons (ps_set (i := 3) sc_law_purse.nd rfl (Or.inl rfl) pe_int)
          (pss_cons (ps_if (pt_cmpR op_ge (pv 2) (pe_op op_pow pe_int pe_int) (nomark _)) (pss_one (ps_set (i := 3) sc_law_purse.nd rfl (Or.inl rfl) (pe_op op_sub (pv 2) (pe_op op_pow pe_int pe_int)))) pss_nil)
          (pss_one (ps_ret (pe_lst (pa_cons (pv 3) (pa_cons (pe_op op_add (pe_op op_mod (pv 2) pe_int) (pe_op op_mul pe_int (pv 1))) (pa_cons pe_int pa_nil)))))))))), ?_⟩
    have fin : ∀ cell own : Int, 0 ≤ own → ∀ p, H p = none → Q (.ref p) (upd H p (.lst [.int own, .int (cell % 4611686018427387847 + 53 * k), .int 0])) := fun cell own ho p np =>
      q p _ np (Same.new np) ⟨own, _, 0, upd_same, ho, by omega, by omega, by omega, by omega⟩
    have tail : ∀ cell : Int, ∀ σ : St, σ = [some (.ref a), some (.int k), some (.int cell), none] → True := fun _ _ _ => trivial
    refine ⟨_, rfl, _, _, rfl, rfl, .inl ⟨by decide, by decide⟩, _, _, rfl, rfl, ?_⟩
    refine ⟨_, rfl, _, rfl, _, _, rfl, .inl hS, _, _, rfl, rfl, _, rfl, ite2 (fun c => ?_) (fun c => ?_)⟩
    · have c1 : k < (ns.length : Int) := by
        have c2 := of_decide_eq_true c
        rw [List.length_map] at c2
        exact c2
      have c3 : (ns.map V.int)[k.toNat]? = some (V.int (ns.getD k.toNat 0)) := by
        have c4 : k.toNat < ns.length := by omega
        rw [List.getElem?_map, List.getElem?_eq_getElem c4, List.getD_eq_getElem?_getD, List.getElem?_eq_getElem c4]
        rfl
      have c5 : atI (ns.map V.int) k = some (V.int (ns.getD k.toNat 0)) := by
        have c6 := atI_nat c3
        rw [Int.toNat_of_nonneg hk0] at c6
        exact c6
      refine ⟨_, rfl, _, rfl, a, _, _, _, rfl, rfl, hS, c5, ?_⟩
      refine ⟨_, rfl, _, _, rfl, rfl, ⟨by decide, by decide, by decide⟩, _, _, rfl, rfl, _, rfl, ite2 (fun d => ?_) (fun d => ?_)⟩
      · refine ⟨_, rfl, _, _, rfl, rfl, ⟨by decide, by decide, by decide⟩, _, _, rfl, rfl, ?_⟩
        refine ⟨_, rfl, _, rfl, _, _, rfl, rfl, (by show (0 : Int) < 4611686018427387847; decide), _, rfl, _, _, rfl, rfl, .inl ⟨by decide, by decide⟩, _, _, rfl, rfl, (by show 3 ≤ sizeLine; decide), fun p np => fin _ _ ?_ p np⟩
        have d1 := of_decide_eq_true d
        exact Int.sub_nonneg_of_le d1
      · refine ⟨_, rfl, _, rfl, _, _, rfl, rfl, (by show (0 : Int) < 4611686018427387847; decide), _, rfl, _, _, rfl, rfl, .inl ⟨by decide, by decide⟩, _, _, rfl, rfl, (by show 3 ≤ sizeLine; decide), fun p np => fin _ _ (by decide) p np⟩
    · refine ⟨_, rfl, _, _, rfl, rfl, ⟨by decide, by decide, by decide⟩, _, _, rfl, rfl, _, rfl, ite2 (fun d => ?_) (fun d => ?_)⟩
      · refine ⟨_, rfl, _, _, rfl, rfl, ⟨by decide, by decide, by decide⟩, _, _, rfl, rfl, ?_⟩
        refine ⟨_, rfl, _, rfl, _, _, rfl, rfl, (by show (0 : Int) < 4611686018427387847; decide), _, rfl, _, _, rfl, rfl, .inl ⟨by decide, by decide⟩, _, _, rfl, rfl, (by show 3 ≤ sizeLine; decide), fun p np => fin _ _ ?_ p np⟩
        have d1 := of_decide_eq_true d
        exact Int.sub_nonneg_of_le d1
      · refine ⟨_, rfl, _, rfl, _, _, rfl, rfl, (by show (0 : Int) < 4611686018427387847; decide), _, rfl, _, _, rfl, rfl, .inl ⟨by decide, by decide⟩, _, _, rfl, rfl, (by show 3 ≤ sizeLine; decide), fun p np => fin _ _ (by decide) p np⟩
abbrev s_law_coin : Stmt := topS 26
theorem sc_law_coin : FnScope ["purse", "many", "digit", "primes", "prime", "one", "two"] ["purse", "many"] (defScope s_law_coin) := ⟨rfl, rfl, rfl, by decide +kernel, rfl, by decide +kernel, by decide +kernel⟩
theorem ok_coin {f : Addr} {fd : FuncData} (F : Fun K "_law_coin" "_law_coin" s_law_coin f fd) : FnOk P w K mg base CX0 1 f fd ["purse", "many"] spCoin := by
  refine F.ok sc_law_coin (fun vs H Q E h => ?_) (fun cdv A outer s H vs Q E hr h => ?_)
  · obtain ⟨p, many, n, rfl, _⟩ := h
    rfl
  · obtain ⟨p, many, n, rfl, ⟨own, seed, cnt, hp, h1, h2, h3, h4, h5⟩, hn, hm1, hm2, k⟩ := h
    have m0 : (0 : Int) < many := by omega
    have mw : CDivW own many := wide_div m0 (b := 300) (by omega) (by decide) (by decide)
    refine ⟨_, (pss_cons (ps_if (pt_cmpR op_ge (pe_ix (r := rIxL K) ix_list (pv 0) pe_int (fun _ _ => rfl)) (pv 1) (nomark _)) (pss_cons (ps_set (i := 2) sc_law_coin.nd rfl (Or.inl rfl) (pe_op op_mod (pe_ix (r := rIxL K) ix_list (pv 0) pe_int (fun _ _ => rfl)) (pv 1)))
            (pss_cons (ps_asg (pe_op op_fdivW (pe_ix (r := rIxL K) ix_list (pv 0) pe_int (fun _ _ => rfl)) (pv 1)) (pg_sub (pv 0) pe_int set_list))
            (pss_one (ps_ret (pv 2))))) pss_nil)
          (pss_cons (ps_asg (pe_op op_add (pe_ix (r := rIxL K) ix_list (pv 0) pe_int (fun _ _ => rfl)) pe_int) (pg_sub (pv 0) pe_int set_list))
          (pss_cons (ps_set (i := 3) sc_law_coin.nd rfl (Or.inl rfl) (pe_lst (pa_cons pe_int (pa_cons pe_int (pa_cons pe_int (pa_cons pe_int (pa_cons pe_int (pa_cons pe_int (pa_cons pe_int (pa_cons pe_int pa_nil))))))))))
          (pss_cons (ps_set (i := 4) sc_law_coin.nd rfl (Or.inl rfl) (pe_ix (r := rIxL K) ix_list (pv 3) (pe_op op_mod (pe_ix (r := rIxL K) ix_list (pv 0) pe_int (fun _ _ => rfl)) pe_int) (fun _ _ => rfl)))
          (pss_cons (ps_set (i := 5) sc_law_coin.nd rfl (Or.inl rfl) (pe_op op_add (pe_op op_mul (pe_op op_mod (pe_ix (r := rIxL K) ix_list (pv 0) pe_int (fun _ _ => rfl)) (pv 4)) (pe_op op_add (pe_op op_mul pe_int (pe_ix (r := rIxL K) ix_list (pv 0) pe_int (fun _ _ => rfl))) pe_int)) (pe_op op_mul pe_int (pe_ix (r := rIxL K) ix_list (pv 0) pe_int (fun _ _ => rfl)))))
          (pss_cons (ps_set (i := 5) sc_law_coin.nd rfl (Or.inl rfl) (pe_op op_mod (pe_op op_pow (pv 5) pe_int) (pv 4)))
          (pss_cons (ps_set (i := 6) sc_law_coin.nd rfl (Or.inl rfl) (pe_op op_add (pe_op op_add (pe_op op_mul (pv 5) (pv 5)) (pe_op op_mod (pe_ix (r := rIxL K) ix_list (pv 0) pe_int (fun _ _ => rfl)) pe_int)) (pe_ix (r := rIxL K) ix_list (pv 0) pe_int (fun _ _ => rfl))))
          (pss_one (ps_ret (pe_op op_mod (pe_op op_fdivW (pe_op op_mod (pe_op op_pow (pv 6) pe_int) (pe_ix (r := rIxL K) ix_list (pv 3) (pe_op op_mod (pe_op op_add (pe_ix (r := rIxL K) ix_list (pv 0) pe_int (fun _ _ => rfl)) pe_int) pe_int) (fun _ _ => rfl))) pe_int) (pv 1))))))))))), ?_⟩
    refine ⟨_, rfl, p, _, _, _, rfl, rfl, SqL.of hp, rfl, _, rfl, _, _, rfl, rfl, _, rfl, ite2 (fun c => ?_) (fun c => ?_)⟩
    · refine ⟨_, rfl, p, _, _, _, rfl, rfl, SqL.of hp, rfl, _, rfl, _, _, rfl, rfl, m0, ?_⟩
      refine ⟨_, rfl, p, _, _, _, rfl, rfl, SqL.of hp, rfl, _, rfl, _, _, rfl, rfl, mw, _, rfl, p, _, _, 0, rfl, rfl, hp, rfl, ?_⟩
      refine ⟨_, rfl, ?_⟩
      exact k _ _ (Int.emod_nonneg _ (by omega)) (Int.emod_lt_of_pos _ m0) ⟨own / many, seed, cnt, upd_same, Int.ediv_nonneg h1 (by omega), h2, h3, h4, by omega⟩ (fun b o nb hb => by rw [upd_ne nb]; exact hb)
    · -- purse[2] = purse[2] + 1
      refine ⟨_, rfl, p, _, _, _, rfl, rfl, SqL.of hp, rfl, _, _, rfl, rfl, _, rfl, p, _, _, 2, rfl, rfl, hp, rfl, ?_⟩
      obtain ⟨H1, e1⟩ : ∃ H1, H1 = upd H p (.lst [.int own, .int seed, .int (cnt + 1)]) := ⟨_, rfl⟩
      have p1 : H1 p = some (.lst [.int own, .int seed, .int (cnt + 1)]) := by rw [e1]; exact upd_same
      have k1 : Keep p H H1 := fun b o nb hb => by rw [e1, upd_ne nb]; exact hb
      show tSeq _ _ _ _ (upd H p (.lst [.int own, .int seed, .int (cnt + 1)]))
      rw [← e1]
      clear e1
      refine ⟨(by show 8 ≤ sizeLine; decide), fun q nq => ?_⟩
      obtain ⟨H2, e2⟩ : ∃ H2, H2 = upd H1 q (.lst primesL) := ⟨_, rfl⟩
      have q2 : H2 q = some (.lst primesL) := by rw [e2]; exact upd_same
      have s2 : Same H1 H2 := by rw [e2]; exact Same.new nq
      have p2 := s2 _ _ p1
      show tSeq _ _ _ _ (upd H1 q (.lst primesL))
      rw [← e2]
      clear e2
      obtain ⟨pr, a1, a2, a3⟩ := prime_at (i := (cnt + 1) % 8) (by omega) (by omega)
      obtain ⟨pr', b1, b2, b3⟩ := prime_at (i := (cnt + 1 + 3) % 8) (by omega) (by omega)
      have pr0 : (0 : Int) < pr := by omega
      have pr0' : (0 : Int) < pr' := by omega
      refine ⟨_, rfl, _, rfl, p, _, _, _, rfl, rfl, SqL.of p2, rfl, _, _, rfl, rfl, (by show (0 : Int) < 8; decide), q, _, _, _, rfl, rfl, SqL.of q2, a1, ?_⟩
      have x1 : 0 ≤ seed % pr := Int.emod_nonneg _ (by omega)
      have x2 : seed % pr < pr := Int.emod_lt_of_pos _ pr0
      refine ⟨_, rfl, p, _, _, _, rfl, rfl, SqL.of p2, rfl, _, rfl, _, _, rfl, rfl, pr0, _, rfl, p, _, _, _, rfl, rfl, SqL.of p2, rfl, _, _, rfl, rfl, .inl ⟨by decide, by decide⟩, _, _, rfl, rfl, _, _, rfl, rfl, .inl ⟨by omega, by omega⟩, _, rfl, p, _, _, _, rfl, rfl, SqL.of p2, rfl, _, _, rfl, rfl, .inl ⟨by decide, by decide⟩, _, _, rfl, rfl, ?_⟩
      have y1 : 0 ≤ seed % pr * (2 * (cnt + 1) + 5) := Int.mul_nonneg x1 (by omega)
      have y2 : seed % pr * (2 * (cnt + 1) + 5) ≤ 2147483489 * (2 * (cnt + 1) + 5) := Int.mul_le_mul_of_nonneg_right (by omega) (by omega)
      have z1 : 0 ≤ seed % pr * (2 * (cnt + 1) + 5) + 6007 * (cnt + 1) := by omega
      have z2 : seed % pr * (2 * (cnt + 1) + 5) + 6007 * (cnt + 1) < 2 ^ 64 := by omega
      have z3 : (seed % pr * (2 * (cnt + 1) + 5) + 6007 * (cnt + 1)).natAbs < 2 ^ 64 := by omega
      refine ⟨_, rfl, _, _, rfl, rfl, ⟨by decide, by decide, z3⟩, _, rfl, _, _, rfl, rfl, pr0, ?_⟩
      obtain ⟨one2, e2⟩ : ∃ one2, one2 = (seed % pr * (2 * (cnt + 1) + 5) + 6007 * (cnt + 1)) ^ (3 : Int).toNat % pr := ⟨_, rfl⟩
      have w1 : 0 ≤ one2 := e2 ▸ Int.emod_nonneg _ (by omega)
      have w2 : one2 < pr := e2 ▸ Int.emod_lt_of_pos _ pr0
      show tSeq _ _ _ [some (.ref p), some (.int many), none, some (.ref q), some (.int pr), some (.int ((seed % pr * (2 * (cnt + 1) + 5) + 6007 * (cnt + 1)) ^ (3 : Int).toNat % pr)), none] H2
      rw [← e2]
      clear e2
      refine ⟨_, rfl, _, rfl, _, _, rfl, rfl, .inl ⟨by omega, by omega⟩, _, rfl, p, _, _, _, rfl, rfl, SqL.of p2, rfl, _, _, rfl, rfl, (by show (0 : Int) < 1000033; decide), _, _, rfl, rfl, _, rfl, p, _, _, _, rfl, rfl, SqL.of p2, rfl, _, _, rfl, rfl, ?_⟩
      have v1 : 0 ≤ one2 * one2 := Int.mul_nonneg w1 w1
      have v2 : one2 * one2 ≤ 2147483489 * one2 := Int.mul_le_mul_of_nonneg_right (by omega) w1
      have t3 : (one2 * one2 + seed % 1000033 + (cnt + 1)).natAbs < 2 ^ 64 := by omega
      refine ⟨_, rfl, _, _, rfl, rfl, ⟨by decide, by decide, t3⟩, _, rfl, _, rfl, p, _, _, _, rfl, rfl, SqL.of p2, rfl, _, _, rfl, rfl, _, _, rfl, rfl, (by show (0 : Int) < 8; decide), q, _, _, _, rfl, rfl, SqL.of q2, b1, _, _, rfl, rfl, pr0', _, _, rfl, rfl, wide_div (b := 4) (by decide) (by decide) (by decide) (by decide), _, rfl, _, _, rfl, rfl, m0, ?_⟩
      exact k _ _ (Int.emod_nonneg _ (by omega)) (Int.emod_lt_of_pos _ m0) ⟨own, seed, cnt + 1, p2, h1, h2, h3, by omega, by omega⟩ (k1.trans (Keep.same s2))

/-! ### names -/
def lettersS : Str := "abcdefghijklmnopqrstuvwxyz"
theorem letters_cps : lettersS.cps.toList = List.range' 97 26 := by decide +kernel
theorem letters_len : lettersS.length ≤ sizeLine := by
  have h : lettersS.length = 26 := by decide +kernel
  rw [h]
  decide
theorem letter_at {i : Int} (h0 : 0 ≤ i) (h : i < 26) : atI lettersS.cps.toList i = some (97 + i.toNat) := by
  rw [letters_cps]
  have e : (List.range' 97 26)[i.toNat]? = some (97 + i.toNat) := by
    rw [List.getElem?_range' (by omega), Nat.one_mul]
  have k := atI_nat e
  rw [Int.toNat_of_nonneg h0] at k
  exact k
def Letters (s : Str) : Prop := ∀ c ∈ s.cps.toList, 97 ≤ c ∧ c ≤ 122
def NameS (s : Str) : Prop := 1 ≤ s.length ∧ s.length ≤ 8 ∧ Letters s
theorem Str_len (s : Str) : s.length = s.cps.toList.length := by
  show s.cps.size = _
  rw [Array.length_toList]
theorem joinL_nil : ∀ ps : List (List Nat), TL.joinL [] ps = ps.flatten
  | [] => rfl
  | [p] => by simp [TL.joinL]
  | p :: q :: r => by
    have h := joinL_nil (q :: r)
    show p ++ ([] ++ TL.joinL [] (q :: r)) = _
    rw [h]
    rfl
theorem join_tl (ys : List Str) : (Txt.join "" ys).cps.toList = (ys.map fun s => s.cps.toList).flatten := by
  have e : TL.tl (Txt.join "" ys) = TL.joinL (TL.tl "") (ys.map TL.tl) := by
    rw [TL.join_eq, TL.tl_join]
  have e2 : TL.tl ("" : Str) = [] := by decide +kernel
  rw [e2, joinL_nil] at e
  exact e
theorem flat_len : ∀ ys : List Str, (∀ s ∈ ys, s.length = 1) → (ys.map fun s => s.cps.toList).flatten.length = ys.length
  | [], _ => rfl
  | y :: ys, h => by
    have h1 := h y List.mem_cons_self
    have h2 := flat_len ys fun s hs => h s (List.mem_cons_of_mem _ hs)
    rw [Str_len] at h1
    show (y.cps.toList ++ _).length = _
    rw [List.length_append, h1, h2, List.length_cons]
    omega
theorem join_len {ys : List Str} (h : ∀ s ∈ ys, s.length = 1) : (Txt.join "" ys).length = ys.length := by
  rw [Str_len, join_tl, flat_len ys h]
theorem join_letters {ys : List Str} (h : ∀ s ∈ ys, Letters s) : Letters (Txt.join "" ys) := fun c hc => by
  rw [join_tl] at hc
  obtain ⟨l, hl, hcl⟩ := List.mem_flatten.mp hc
  obtain ⟨s, hs, rfl⟩ := List.mem_map.mp hl
  exact h s hs c hcl
theorem sum_ones : ∀ ys : List Str, (∀ s ∈ ys, s.length = 1) → (ys.map (·.length)).sum = ys.length
  | [], _ => rfl
  | y :: ys, h => by
    have h1 := h y List.mem_cons_self
    have h2 := sum_ones ys fun s hs => h s (List.mem_cons_of_mem _ hs)
    show y.length + (ys.map (·.length)).sum = _
    rw [h1, h2, List.length_cons]
    omega
theorem sign_len (c : Nat) : (⟨#[c]⟩ : Str).length = 1 := rfl
theorem sign_letters {c : Nat} (h1 : 97 ≤ c) (h2 : c ≤ 122) : Letters ⟨#[c]⟩ := fun d hd => by
  have e : d = c := by simpa using hd
  omega
theorem name_mk {s : Str} {c : Nat} (h1 : s.length ≤ 7) (h2 : Letters s) (h3 : 97 ≤ c) (h4 : c ≤ 122) : NameS (s ++ ⟨#[c]⟩) := by
  have e : (s ++ (⟨#[c]⟩ : Str)).length = s.length + 1 := by rw [Str.length_append, sign_len]
  refine ⟨by omega, by omega, fun d hd => ?_⟩
  rw [Str.cps_append, Array.toList_append, List.mem_append] at hd
  rcases hd with hd | hd
  · exact h2 d hd
  · exact sign_letters h3 h4 d hd
theorem small_size {n : Nat} (h : n ≤ 100000) : n ≤ sizeLine := Nat.le_trans h (by decide)
def spNames : Sp := fun vs H Q _ => ∃ (p : Addr) (many n : Int), vs = [.ref p, .int many] ∧ Pu H p n ∧ 0 ≤ many ∧ many ≤ 1000 ∧ n + 9 * many < 2 ^ 30 ∧
  ∀ (q : Addr) (ns : List Str) (H' : Hp), H q = none → (ns.length : Int) = many → (∀ s ∈ ns, NameS s) → H' q = some (.lst (ns.map V.str)) → Pu H' p (n + 9 * many) → Keep p H H' → Q (.ref q) H'
abbrev s_law_names : Stmt := topS 27
theorem sc_law_names : FnScope ["purse", "many", "letters", "found", "at", "word", "turn"] ["purse", "many"] (defScope s_law_names) := ⟨rfl, rfl, rfl, by decide +kernel, rfl, by decide +kernel, by decide +kernel⟩
theorem ok_names {f : Addr} {fd : FuncData} (F : Fun K "_law_names" "_law_names" s_law_names f fd) (T : Txt mg) (c_coin : Cal P w K mg base 1 "_law_coin" ["purse", "many"] spCoin) : FnOk P w K mg base CX0 2 f fd ["purse", "many"] spNames := by
  refine F.ok sc_law_names (fun vs H Q E h => ?_) (fun cdv A outer s H vs Q E hr h => ?_)
  · obtain ⟨p, many, n, rfl, _⟩ := h
    rfl
  · obtain ⟨p, many, n, rfl, u, hm0, hm1, hn, k⟩ := h
    obtain ⟨f_coin, fd_coin, G_coin, m_coin, k_coin, b_coin⟩ := c_coin
    refine ⟨_, (pss_cons (ps_set (i := 2) sc_law_names.nd rfl (Or.inr rfl) pe_str)
          (pss_cons (ps_set (i := 3) sc_law_names.nd rfl (Or.inl rfl) (pe_lst pa_nil))
          (pss_cons (ps_for PassesOwn.never rfl (pi_range1 rfl T.b_range (pa_cons (pv 1) pa_nil)) (pg_name (i := 4) sc_law_names.nd rfl (Or.inl rfl))
           (pss_cons (ps_set (i := 5) sc_law_names.nd rfl (Or.inl rfl) (pe_m1 PySem.F.slot_str_join PySem.F.type_str_join mt_join pe_str (pe_lc (own := [("turn", 6)]) (g := gName 6) (tt := tYes) rfl sc_law_names.nd (pi_range1 rfl T.b_range (pa_cons (pe_call G_coin (hr.mono (by decide)) rfl m_coin k_coin b_coin .nil pass0 (pa_cons (pv 0) (pa_cons pe_int pa_nil))) pa_nil)) (blkOk_by (N := ["purse", "many", "letters", "found", "at", "word", "turn"]) (sc := defScope s_law_names) (by decide +kernel)) (fun _ _ _ _ _ => (pg_name (i := 6) sc_law_names.nd rfl (Or.inl rfl))) (fun _ _ _ _ _ => pts_nil) (fun _ _ _ _ _ => (pe_ix ix_str (pv 2) (pe_call G_coin (hr.mono (by decide)) rfl m_coin k_coin b_coin .nil pass0 (pa_cons (pv 0) (pa_cons pe_int pa_nil))) (fun _ _ => rfl))))))
            (pss_one (ps_expr (pe_bm PySem.F.plainAttrs_list PySem.F.slot_list_append PySem.F.type_list_append mt_append (pv 3) (pa_cons (pe_op op_add_str (pv 5) (pe_ix ix_str (pv 2) (pe_op op_mod (pe_op op_add (pv 4) (pe_op op_mul (pe_call G_coin (hr.mono (by decide)) rfl m_coin k_coin b_coin .nil pass0 (pa_cons (pv 0) (pa_cons pe_int pa_nil))) pe_int)) pe_int) (fun _ _ => rfl))) pa_nil))))))
          (pss_one (ps_ret (pv 3)))))), ?_⟩
    refine ⟨Nat.zero_le _, fun q nq => ?_⟩
    have pq : p ≠ q := by
      obtain ⟨_, _, _, e, _⟩ := u
      exact ne_of_none e nq
    have kq : Keep p H (upd H q (.lst [])) := Keep.same (Same.new nq)
    refine ⟨_, rfl, _, rfl, by omega, by omega, for_range (lo := 0) (fun i σ h => ∃ (ns : List Str) (v4 v5 v6 : Option V), σ = [some (.ref p), some (.int many), some (.str lettersS), some (.ref q), v4, v5, v6] ∧ ns.length = i ∧ (∀ s ∈ ns, NameS s) ∧ h q = some (.lst (ns.map V.str)) ∧ Keep p H h ∧ Pu h p (n + 9 * i))
      ⟨[], _, _, _, rfl, rfl, (fun s hs => by cases hs), upd_same, kq, (u.same (Same.new nq)).mono (by omega)⟩ ?_ ?_⟩
    · rintro i σ h hi ⟨ns, v4, v5, v6, rfl, hl, hN, hq, kp, u1⟩
      have hi2 : (i : Int) < many := by
        have : i < many.toNat := hi
        omega
      refine ⟨⟨_, rfl⟩, _, rfl, p, _, _, rfl, u1, by omega, by decide, by decide, fun r h2 ra rb u2 k2 => ?_⟩
      have hq2 := k2 _ _ pq.symm hq
      refine ⟨_, rfl, by omega, by omega, fun D nD => ?_⟩
      have qD : q ≠ D := ne_of_none hq2 nD
      have pD : p ≠ D := by
        obtain ⟨_, _, _, e, _⟩ := u2
        exact ne_of_none e nD
      have kD : Keep p H (upd h2 D (.lst [])) := (kp.trans k2).trans (Keep.same (Same.new nD))
      refine lc_range (lo := 0) (fun j g => ∃ ys : List Str, ys.length = j ∧ (∀ s ∈ ys, s.length = 1) ∧ (∀ s ∈ ys, Letters s) ∧ g D = some (.lst (ys.map V.str)) ∧ g q = some (.lst (ns.map V.str)) ∧ (∀ b o, b ≠ p → b ≠ D → h2 b = some o → g b = some o) ∧ Pu g p (n + 9 * i + 1 + j))
        ⟨[], rfl, (fun s hs => by cases hs), (fun s hs => by cases hs), upd_same, (by rw [upd_ne qD]; exact hq2), (fun b o _ nb e => by rw [upd_ne nb]; exact e), (u2.same (Same.new nD)).mono (by omega)⟩ ?_ ?_
      · rintro j g hj ⟨ys, hy, hy1, hyL, hD, hq3, kp3, u3⟩
        have hj2 : (j : Int) < r := by
          have : j < r.toNat := hj
          omega
        refine ⟨rfl, yesC ⟨_, rfl, _, rfl, p, _, _, rfl, u3, by omega, by decide, by decide, fun r2 g2 r2a r2b u4 k4 => ?_⟩⟩
        have hD2 := k4 _ _ pD.symm hD
        refine ⟨lettersS, _, _, rfl, rfl, letters_len, letter_at r2a r2b, _, hD2, by rw [List.length_map]; exact Nat.lt_of_lt_of_le (show ys.length < 100 by omega) (by decide), ?_⟩
        have uD : ∀ b, b ≠ D → (upd g2 D (.lst (ys.map V.str ++ [.str ⟨#[97 + r2.toNat]⟩]))) b = g2 b := fun b nb => upd_ne nb
        refine ⟨ys ++ [⟨#[97 + r2.toNat]⟩], by rw [List.length_append, hy]; rfl, fun s hs => ?_, fun s hs => ?_, by rw [upd_same, List.map_append]; rfl, by rw [uD _ qD]; exact k4 _ _ pq.symm hq3, fun b o np nb e => by rw [uD _ nb]; exact k4 _ _ np (kp3 b o np nb e), ?_⟩
        · rcases List.mem_append.mp hs with hs | hs
          · exact hy1 s hs
          · rw [List.mem_singleton.mp hs]
            exact sign_len _
        · rcases List.mem_append.mp hs with hs | hs
          · exact hyL s hs
          · rw [List.mem_singleton.mp hs]
            exact sign_letters (by omega) (by omega)
        · obtain ⟨o1, o2, o3, e, r⟩ := u4.mono (show n + 9 * (i : Int) + 1 + j + 1 ≤ n + 9 * (i : Int) + 1 + ((j + 1 : Nat) : Int) by omega)
          exact ⟨o1, o2, o3, by rw [uD _ pD]; exact e, r⟩
      · rintro g ⟨ys, hy, hy1, hyL, hD, hq3, kp3, u3⟩
        have hy7 : ys.length ≤ 7 := by omega
        refine ⟨_, D, ys, rfl, rfl, .inl (SqL.of hD), ?_, ?_⟩
        · rw [sum_ones ys hy1]
          show ys.length + ys.length * 0 ≤ 16777216
          omega
        have wl := join_len hy1
        have wL := join_letters hyL
        refine ⟨_, rfl, .inl ⟨rfl, _, SqL.of hq3⟩, _, rfl, _, rfl, _, rfl, _, rfl, p, _, _, rfl, u3, by omega, by decide, by decide, fun r3 g3 r3a r3b u4 k4 => ?_⟩
        have hq4 := k4 _ _ pq.symm hq3
        refine ⟨_, _, rfl, rfl, .inr ⟨by decide, by decide⟩, _, _, rfl, rfl, _, _, rfl, rfl, (by show (0 : Int) < 26; decide), lettersS, _, _, rfl, rfl, letters_len, letter_at (Int.emod_nonneg _ (by decide)) (Int.emod_lt_of_pos _ (by decide)), _, _, rfl, rfl, ?_, ?_⟩
        · rw [sign_len, wl]
          exact small_size (by omega)
        refine ⟨q, _, _, rfl, rfl, hq4, by rw [List.length_map]; exact Nat.lt_of_lt_of_le (show ns.length < 2000 by omega) (by decide), ?_⟩
        have uq : ∀ b, b ≠ q → (upd g3 q (.lst (ns.map V.str ++ [.str (Txt.join "" ys ++ ⟨#[97 + ((0 + (i : Int) + r3 * 13) % 26).toNat]⟩)]))) b = g3 b := fun b nb => upd_ne nb
        refine ⟨ns ++ [Txt.join "" ys ++ ⟨#[97 + ((0 + (i : Int) + r3 * 13) % 26).toNat]⟩], _, _, _, rfl, by rw [List.length_append, hl]; rfl, fun s hs => ?_, by rw [List.map_append]; exact upd_same, fun b o nb e => ?_, ?_⟩
        · rcases List.mem_append.mp hs with hs | hs
          · exact hN s hs
          · rw [List.mem_singleton.mp hs]
            have z1 : 0 ≤ (0 + (i : Int) + r3 * 13) % 26 := Int.emod_nonneg _ (by decide)
            have z2 : (0 + (i : Int) + r3 * 13) % 26 < 26 := Int.emod_lt_of_pos _ (by decide)
            exact name_mk (by omega) wL (by omega) (by omega)
        · have e1 := kp b o nb e
          have nbq : b ≠ q := ne_of_none e nq
          rw [uq b nbq]
          exact k4 _ _ nb (kp3 b o nb (ne_of_none (k2 _ _ nb e1) nD) (k2 _ _ nb e1))
        · obtain ⟨o1, o2, o3, e, r⟩ := u4.mono (show n + 9 * (i : Int) + 1 + (r.toNat : Int) + 1 ≤ n + 9 * ((i + 1 : Nat) : Int) by omega)
          exact ⟨o1, o2, o3, by rw [uq _ pq]; exact e, r⟩
    · rintro σ h ⟨ns, v4, v5, v6, rfl, hl, hN, hq, kp, u1⟩
      refine ⟨_, rfl, ?_⟩
      have e : (many.toNat : Int) = many := Int.toNat_of_nonneg hm0
      exact k q ns h nq (by omega) hN hq (by rw [e] at u1; exact u1) kp

end
section
variable [Tabz]
local macro_rules | `(tactic| walk_at "d") => `(tactic| first | refine Or.inl ⟨_, rfl, ?_⟩ | refine Or.inr ⟨rfl, ?_⟩ | refine ⟨Nat.le_of_ble_eq_true rfl, ?_⟩ | refine ⟨⟨_, rfl⟩, ?_⟩ | refine ⟨_, rfl, ?_⟩ | refine ⟨_, _, rfl, ?_⟩ | refine ⟨_, _, _, rfl, ?_⟩ | refine ⟨_, _, _, _, rfl, ?_⟩)
/-! ### drawing by data readings -/
def mCoin : DM := fun rs (n : Int) Q => ∃ many : Int, rs = [.tape, .d (.int many)] ∧ Cnd ((1 ≤ many ∧ many < 2 ^ 300) ∧ n < 2 ^ 30) ∧ ∀ r, 0 ≤ r → r < many → Q (.d (.int r)) (n + 1)
theorem L_coin : ∀ rs n Q, mCoin rs n Q → plainR rs ∧ rs.length = 2 := by
  rintro rs (n : Int) Q ⟨m, rfl, h⟩
  exact tapeR (ds := [_]) rfl
/-- all but the tape's object is kept, the tape is as told -/
theorem keep_fr {c : EC} {n m : Int} {H H' : Hp} {a : Addr} {v : V} {r : DV} (h0 : c.H0 = H) (hn : c.n0 = n) (g : c.G n (_root_.Rh.msk (c.B n) H) H) (e : c.t = .ref a) (k : Keep a H H') (u : Pu H' a m) : FrV c A0 n m H H' v r := by
  obtain ⟨o1, o2, o3, hx, _⟩ := g.1 a e
  refine ⟨fun b o q h => ⟨fun p => ⟨k b o (fun z => p (by rw [z]; exact e)) h, p⟩, ?_⟩, fun a' e' => ?_, Tabs_mv g.2 fun b o l _ _ h => k b o (fun z => ?_) h⟩
  · by_cases z : b = a
    · obtain ⟨_, _, _, hy, _⟩ := u
      exact ⟨_, by rw [z]; exact hy, fun ps w => by cases w⟩
    · exact ⟨o, k b o z h, q⟩
  · rw [e] at e'
    cases e'
    exact u
  · rw [z, hx] at h
    cases h
    exact l _ rfl
theorem new_nB {c : EC} {n m : Int} {H : Hp} {a q : Addr} (h0 : c.H0 = H) (g : c.G n (_root_.Rh.msk (c.B n) H) H) (e : c.t = .ref a) (nq : H q = none) : ¬ c.B m q := fun z => by
  rcases z with z | z
  · obtain ⟨⟨o, h, _⟩, _⟩ := c.Bs q z
    rw [h0, nq] at h
    cases h
  · have z : c.t = .ref q := z
    rw [e] at z
    cases z
    obtain ⟨_, _, _, hx, _⟩ := g.1 a e
    rw [nq] at hx
    cases hx
theorem coin_D {P : Program} {w : World} {K : PySem.W.Frag} {mg : Str → Option Value} {base : Heap} {k : Nat} {x : Str} {ps : List Str} (h : Cal P w K mg base k x ps spCoin) : Cal P w K mg base k x ps (spD mCoin) := by
  obtain ⟨f, fd, G, r⟩ := h
  refine ⟨f, fd, G.imp fun vs H Q E ⟨c, n, rs, Q', h0, hn0, g, pn, ok, ⟨many, e, cc, hq⟩, kk⟩ => ?_, r⟩
  subst e
  obtain ⟨hm, hn⟩ := cc.get
  cases ok with
  | cons h1 _ t => cases t with
    | cons h2 _ t =>
      cases t
      cases h2
      obtain ⟨e1, a, e2⟩ := h1
      rw [e1, e2]
      exact ⟨a, many, n, rfl, g.1 a e2, hn, hm.1, hm.2, fun r H' r0 r1 u k => kk _ _ _ _ (hq r r0 r1) (keep_fr h0 hn0 g e2 k u) (Rp.int r)⟩
def mNames : DM := fun rs (n : Int) Q => ∃ many : Int, rs = [.tape, .d (.int many)] ∧ Cnd ((0 ≤ many ∧ many ≤ 1000) ∧ n + 9 * many < 2 ^ 30) ∧ ∀ ns : List Str, (ns.length : Int) = many → (∀ s ∈ ns, PyData.strOk s = true) → Q (.own (ns.map PyData.str)) (n + 9 * many)
theorem L_names : ∀ rs n Q, mNames rs n Q → plainR rs ∧ rs.length = 2 := by
  rintro rs (n : Int) Q ⟨m, rfl, h⟩
  exact tapeR (ds := [_]) rfl
theorem letters_ok {s : Str} (h : Letters s) : PyData.strOk s = true := by
  show s.cps.all (· < 0x110000) = true
  rw [← Array.all_toList, List.all_eq_true]
  intro c hc
  have := (h c hc).2
  exact decide_eq_true (by omega)
theorem names_D {P : Program} {w : World} {K : PySem.W.Frag} {mg : Str → Option Value} {base : Heap} {k : Nat} {x : Str} {ps : List Str} (h : Cal P w K mg base k x ps spNames) : Cal P w K mg base k x ps (spD mNames) := by
  obtain ⟨f, fd, G, r⟩ := h
  refine ⟨f, fd, G.imp fun vs H Q E ⟨c, n, rs, Q', h0, hn0, g, pn, ok, ⟨many, e, cc, hq⟩, kk⟩ => ?_, r⟩
  subst e
  obtain ⟨hm, hn⟩ := cc.get
  cases ok with
  | cons h1 _ t => cases t with
    | cons h2 _ t =>
      cases t
      cases h2
      obtain ⟨e1, a, e2⟩ := h1
      rw [e1, e2]
      exact ⟨a, many, n, rfl, g.1 a e2, hm.1, hm.2, hn, fun q ns H' nq hl hN hl2 u k => kk _ _ _ _ (hq ns hl fun s hs => letters_ok (hN s hs).2.2) (keep_fr h0 hn0 g e2 k u) ⟨q, _, rfl, ⟨.of nq, new_nB h0 g e2 nq⟩, hl2, rp_strs ns⟩⟩
section
variable {P : Program} {w : World} {K : PySem.W.Frag} {mg : Str → Option Value} {base : Heap}
def mLevel : DM := fun rs (n : Int) Q => ∃ way : Int, rs = [.tape, .d (.int way)] ∧ Cnd ((0 ≤ way ∧ way < 4) ∧ n + 10 < 2 ^ 30) ∧ ∀ r : Int, Cnd (1 ≤ r ∧ r ≤ 10 ^ 6) → Q (.d (.int r)) (n + 1 + 1 + 1 + 1)
theorem L_level : ∀ rs n Q, mLevel rs n Q → plainR rs ∧ rs.length = 2 := by
  rintro rs (n : Int) Q ⟨m, rfl, h⟩
  exact tapeR (ds := [_]) rfl
abbrev s_law_level : Stmt := topS 28
theorem sc_law_level : FnScope ["purse", "way"] ["purse", "way"] (defScope s_law_level) := ⟨rfl, rfl, rfl, by decide +kernel, rfl, by decide +kernel, by decide +kernel⟩
theorem ok_level {f : Addr} {fd : FuncData} (F : Fun K "_law_level" "_law_level" s_law_level f fd) (T : Txt mg) (c_coin : Cal P w K mg base 1 "_law_coin" ["purse", "many"] (spD mCoin)) : FnOk P w K mg base CX0 2 f fd ["purse", "way"] (spD mLevel) := by
  apply okD F sc_law_level L_level
  case body =>
    intro cdv A outer s H E hr
    obtain ⟨f_coin, fd_coin, G_coin, m_coin, k_coin, b_coin⟩ := c_coin
    exact (psOne (psRet (pdIx r2IxL ix_list (pdLst (paCons (pdOp r2Add op_add (pdC pe_int) (pdCall (fun _ _ _ q => (L_coin _ _ _ q).1) G_coin (hr.mono (by decide)) (by rfl) m_coin k_coin b_coin pass0 (paCons (pdV (pv 0)) (paCons (pdC pe_int) paNil)))) (paCons (pdOp r2Add op_add (pdC pe_int) (pdCall (fun _ _ _ q => (L_coin _ _ _ q).1) G_coin (hr.mono (by decide)) (by rfl) m_coin k_coin b_coin pass0 (paCons (pdV (pv 0)) (paCons (pdC pe_int) paNil)))) (paCons (pdOp r2Sub op_sub (pdOp r2Pow op_pow (pdC pe_int) (pdC pe_int)) (pdCall (fun _ _ _ q => (L_coin _ _ _ q).1) G_coin (hr.mono (by decide)) (by rfl) m_coin k_coin b_coin pass0 (paCons (pdV (pv 0)) (paCons (pdC pe_int) paNil)))) (paCons (pdOp r2Add op_add (pdC pe_int) (pdCall (fun _ _ _ q => (L_coin _ _ _ q).1) G_coin (hr.mono (by decide)) (by rfl) m_coin k_coin b_coin pass0 (paCons (pdV (pv 0)) (paCons (pdOp r2Pow op_pow (pdC pe_int) (pdC pe_int)) paNil)))) paNil))))) (pdV (pv 1)) (fun _ _ => rfl))))
  case data =>
    rintro rs (n : Int) Q ⟨way, rfl, cc, h⟩
    obtain ⟨hw, hn⟩ := cc.get
    repeat walk_at "d"
    refine ⟨cnd ⟨by decide, by omega⟩, fun r1 r1a r1b => ?_⟩
    repeat walk_at "d"
    refine ⟨cnd ⟨by decide, by omega⟩, fun r2 r2a r2b => ?_⟩
    repeat walk_at "d"
    refine ⟨cnd ⟨by decide, by omega⟩, fun r3 r3a r3b => ?_⟩
    repeat walk_at "d"
    refine ⟨cnd ⟨by decide, by omega⟩, fun r4 r4a r4b => ?_⟩
    repeat walk_at "d"
    rcases ix4 hw.1 hw.2 with e | e | e | e <;> exact ⟨_, e, h _ (cnd (by have e9 : (10 : Int) ^ (6 : Int).toNat = 10 ^ 6 := rfl; first | omega | (rw [e9] at *; omega)))⟩
end

end
section
variable [Tabz]
local macro_rules | `(tactic| walk_at "d") => `(tactic| first | refine Or.inl ⟨_, rfl, ?_⟩ | refine Or.inr ⟨rfl, ?_⟩ | refine ⟨Nat.le_of_ble_eq_true rfl, ?_⟩ | refine ⟨⟨_, rfl⟩, ?_⟩ | refine ⟨_, rfl, ?_⟩ | refine ⟨_, _, rfl, ?_⟩ | refine ⟨_, _, _, rfl, ?_⟩ | refine ⟨_, _, _, _, rfl, ?_⟩)
/-- a drawn row -/
structure RowD (r : Row) : Prop where
  ok : RowOk r
  phi : phi r ≤ 21
  pr : 1 ≤ r.price ∧ r.price ≤ 10 ^ 6
  left : r.left ≤ 10 ^ 9
/-- drawn rows: their numbers and stamps are unlike, below what comes next -/
structure RowsD (rows : List Row) (num st : Int) : Prop where
  row : ∀ r ∈ rows, RowD r
  nums : (∀ a ∈ rows, ∀ b ∈ rows, a.num = b.num → a = b) ∧ ∀ r ∈ rows, 0 ≤ r.num ∧ r.num < num
  ranks : UR rows st
  st0 : ∀ r ∈ rows, 0 ≤ r.rank
  nd : rows.Nodup
theorem RowsD.nil {a b : Int} : RowsD [] a b := ⟨fun r h => (by cases h), ⟨fun r h => (by cases h), fun r h => (by cases h)⟩, ⟨fun r h => (by cases h), fun r h => (by cases h)⟩, fun r h => (by cases h), List.nodup_nil⟩
theorem RowsD.perm {r r' : List Row} {a b : Int} (h : RowsD r a b) (p : r.Perm r') : RowsD r' a b :=
  ⟨fun x hx => h.row x (p.mem_iff.mpr hx), ⟨fun x hx y hy e => h.nums.1 x (p.mem_iff.mpr hx) y (p.mem_iff.mpr hy) e, fun x hx => h.nums.2 x (p.mem_iff.mpr hx)⟩, h.ranks.perm p, fun x hx => h.st0 x (p.mem_iff.mpr hx), p.nodup_iff.mp h.nd⟩
theorem RowsD.add {rows : List Row} {a b a' b' : Int} (h : RowsD rows a b) {r : Row} (hr : RowD r) (e1 : r.num = a) (e2 : r.rank = b) (h1 : a < a') (h2 : b < b') (a0 : 0 ≤ a) (b0 : 0 ≤ b) : RowsD (rows ++ [r]) a' b' := by
  have mem : ∀ x, x ∈ rows ++ [r] → x ∈ rows ∨ x = r := fun x hx => by
    rcases List.mem_append.mp hx with z | z
    · exact .inl z
    · exact .inr (List.mem_singleton.mp z)
  refine ⟨fun x hx => ?_, ⟨fun x hx y hy e => ?_, fun x hx => ?_⟩, ⟨fun x hx y hy e => ?_, fun x hx => ?_⟩, fun x hx => ?_, List.nodup_append.mpr ⟨h.nd, by simp, fun x hx y hy e => ?_⟩⟩
  · rcases mem x hx with z | z
    · exact h.row x z
    · rw [z]; exact hr
  · rcases mem x hx with z | z <;> rcases mem y hy with z2 | z2
    · exact h.nums.1 x z y z2 e
    · have := (h.nums.2 x z).2
      rw [z2] at e
      omega
    · have := (h.nums.2 y z2).2
      rw [z] at e
      omega
    · rw [z, z2]
  · rcases mem x hx with z | z
    · have := h.nums.2 x z
      omega
    · rw [z]; omega
  · rcases mem x hx with z | z <;> rcases mem y hy with z2 | z2
    · exact h.ranks.1 x z y z2 e
    · have := h.ranks.2 x z
      rw [z2] at e
      omega
    · have := h.ranks.2 y z2
      rw [z] at e
      omega
    · rw [z, z2]
  · rcases mem x hx with z | z
    · have := h.ranks.2 x z
      omega
    · rw [z]; omega
  · rcases mem x hx with z | z
    · exact h.st0 x z
    · rw [z]; omega
  · have hy' : y = r := by simpa using hy
    have := (h.nums.2 x hx).2
    rw [e, hy', e1] at this
    omega
theorem cut_two (rows : List Row) {r : Int} (h : 0 ≤ r) : ∃ ys : List Row, cutD (rows.map Row.dat) (some r) none ++ cutD (rows.map Row.dat) none (some r) = ys.map Row.dat ∧ ys.Perm rows ∧ ((cutD (rows.map Row.dat) (some r) none).length + (cutD (rows.map Row.dat) none (some r)).length = rows.length) := by
  obtain ⟨k, rfl⟩ := Int.eq_ofNat_of_zero_le h
  have e1 : cutD (rows.map Row.dat) (some (k : Int)) none = (rows.drop k).map Row.dat := by
    unfold cutD
    rw [HT.sIx_nat, HT.sIx_none, List.take_of_length_le (by rw [List.length_drop]; exact Nat.le_refl _), List.length_map, ← List.map_drop]
    by_cases q : k ≤ rows.length
    · rw [Nat.min_eq_left q]
    · rw [Nat.min_eq_right (by omega), List.drop_eq_nil_of_le (Nat.le_refl _), List.drop_eq_nil_of_le (by omega)]
  have e2 : cutD (rows.map Row.dat) none (some (k : Int)) = (rows.take k).map Row.dat := by
    unfold cutD
    rw [HT.sIx_nat, HT.sIx_none, List.drop_zero, Nat.sub_zero, List.length_map, ← List.map_take]
    by_cases q : k ≤ rows.length
    · rw [Nat.min_eq_left q]
    · rw [Nat.min_eq_right (by omega), List.take_of_length_le (Nat.le_refl _), List.take_of_length_le (by omega)]
  refine ⟨rows.drop k ++ rows.take k, by rw [e1, e2, List.map_append], ?_, ?_⟩
  · have := List.perm_append_comm (l₁ := rows.drop k) (l₂ := rows.take k)
    rwa [List.take_append_drop] at this
  · rw [e1, e2, List.length_map, List.length_map, List.length_drop, List.length_take]
    omega
theorem rowD_part {num pr rank l p s : Int} {who sd : Str} (hw : PyData.strOk who = true) (hs : sd = "buy" ∨ sd = "sell") (hp : 1 ≤ pr ∧ pr ≤ 10 ^ 6) (l1 : 1 ≤ l ∧ l ≤ 10 ^ 9) (p1 : 1 ≤ p ∧ p < 2 ^ 40) (p3 : l ≤ 20 * p) (s1 : 1 ≤ s ∧ s ≤ l) : RowD ⟨num, who, sd, pr, some p, l, s, rank⟩ := by
  refine ⟨⟨s1.1, s1.2, by show l < 2 ^ 64; omega, fun q e => ?_, fun e => (by cases e), hw, hs⟩, ?_, hp, l1.2⟩
  · cases e
    exact ⟨p1.1, by omega⟩
  · show 1 + ((l - s + p - 1) / p).toNat ≤ 21
    have : (l - s + p - 1) / p < 21 := Int.ediv_lt_of_lt_mul (by omega) (by omega)
    omega
theorem rowD_all {num pr rank l : Int} {who sd : Str} (hw : PyData.strOk who = true) (hs : sd = "buy" ∨ sd = "sell") (hp : 1 ≤ pr ∧ pr ≤ 10 ^ 6) (l1 : 1 ≤ l ∧ l ≤ 10 ^ 9) : RowD ⟨num, who, sd, pr, none, l, l, rank⟩ := by
  refine ⟨⟨l1.1, Int.le_refl _, by show l < 2 ^ 64; omega, fun q e => (by cases e), fun _ => rfl, hw, hs⟩, by show 1 + 0 ≤ 21; omega, hp, l1.2⟩
def mRows : DM := fun rs (n : Int) Q => ∃ (ns : List Str) (many way : Int), rs = [.tape, .d (.list (ns.map PyData.str)), .d (.int many), .d (.int way)] ∧ Cnd ((0 ≤ many ∧ many ≤ 100) ∧ (0 ≤ way ∧ way < 4) ∧ (0 < ns.length ∧ ns.length ≤ 1000) ∧ (∀ s ∈ ns, PyData.strOk s = true) ∧ 0 ≤ n ∧ n + 3000 < 2 ^ 30) ∧
  ∀ (rows : List Row) (num st n' : Int), Cnd ((rows.length : Int) = many ∧ RowsD rows num st ∧ (0 ≤ num ∧ num ≤ 8 + 4 * many ∧ 0 ≤ st ∧ st ≤ 8 + 4 * many) ∧ n ≤ n' ∧ n' ≤ n + 20 * many + 5) → Q (.d (.tuple [dRows rows, .int st])) n'
theorem L_rows : ∀ rs n Q, mRows rs n Q → plainR rs ∧ rs.length = 4 := by
  rintro rs (n : Int) Q ⟨ns, m, w, rfl, h⟩
  exact tapeR (ds := [_, _, _]) rfl
section
variable {P : Program} {w : World} {K : PySem.W.Frag} {mg : Str → Option Value} {base : Heap}
abbrev s_law_rows : Stmt := topS 29
theorem sc_law_rows : FnScope ["purse", "names", "many", "way", "found", "number", "stamp", "at", "left", "part", "seen", "who", "side"] ["purse", "names", "many", "way"] (defScope s_law_rows) := ⟨rfl, rfl, rfl, by decide +kernel, rfl, by decide +kernel, by decide +kernel⟩
theorem ok_rows {f : Addr} {fd : FuncData} (F : Fun K "_law_rows" "_law_rows" s_law_rows f fd) (T : Txt mg) (c_coin : Cal P w K mg base 1 "_law_coin" ["purse", "many"] (spD mCoin)) (c_level : Cal P w K mg base 2 "_law_level" ["purse", "way"] (spD mLevel)) : FnOk P w K mg base CX0 3 f fd ["purse", "names", "many", "way"] (spD mRows) := by
  apply okD F sc_law_rows L_rows
  case body =>
    intro cdv A outer s H E hr
    obtain ⟨f_coin, fd_coin, G_coin, m_coin, k_coin, b_coin⟩ := c_coin
    obtain ⟨f_level, fd_level, G_level, m_level, k_level, b_level⟩ := c_level
    exact (psCons (psSet (i := 4) sc_law_rows.nd rfl (Or.inl rfl) (pdLst paNil))
          (psCons (psSet (i := 5) sc_law_rows.nd rfl (Or.inl rfl) (pdCall (fun _ _ _ q => (L_coin _ _ _ q).1) G_coin (hr.mono (by decide)) (by rfl) m_coin k_coin b_coin pass0 (paCons (pdV (pv 0)) (paCons (pdC pe_int) paNil))))
          (psCons (psSet (i := 6) sc_law_rows.nd rfl (Or.inl rfl) (pdCall (fun _ _ _ q => (L_coin _ _ _ q).1) G_coin (hr.mono (by decide)) (by rfl) m_coin k_coin b_coin pass0 (paCons (pdV (pv 0)) (paCons (pdC pe_int) paNil))))
          (psCons (psFor PassesOwn.never rfl (piRng (pi_range1 (by rfl) T.b_range (paCons (pdV (pv 2)) paNil))) (pgN (pg_name (i := 7) sc_law_rows.nd rfl (Or.inl rfl)))
           (psCons (psSet (i := 8) sc_law_rows.nd rfl (Or.inl rfl) (pdOp r2Add op_add (pdC pe_int) (pdCall (fun _ _ _ q => (L_coin _ _ _ q).1) G_coin (hr.mono (by decide)) (by rfl) m_coin k_coin b_coin pass0 (paCons (pdV (pv 0)) (paCons (pdIx r2IxL ix_list (pdLst (paCons (pdC pe_int) (paCons (pdC pe_int) (paCons (pdOp r2Pow op_pow (pdC pe_int) (pdC pe_int)) paNil)))) (pdCall (fun _ _ _ q => (L_coin _ _ _ q).1) G_coin (hr.mono (by decide)) (by rfl) m_coin k_coin b_coin pass0 (paCons (pdV (pv 0)) (paCons (pdC pe_int) paNil))) (fun _ _ => rfl)) paNil)))))
            (psCons (psSet (i := 9) sc_law_rows.nd rfl (Or.inl rfl) (pdC pe_non))
            (psCons (psSet (i := 10) sc_law_rows.nd rfl (Or.inl rfl) (pdV (pv 8)))
            (psCons (psIf (ptCmp r2Eq op_eq (pdCall (fun _ _ _ q => (L_coin _ _ _ q).1) G_coin (hr.mono (by decide)) (by rfl) m_coin k_coin b_coin pass0 (paCons (pdV (pv 0)) (paCons (pdC pe_int) paNil))) (pdC pe_int) (nomark _)) (psCons (psSet (i := 9) sc_law_rows.nd rfl (Or.inl rfl) (pdB rs2I (call_max2 rfl) (by rfl) T.b_max (by decide +kernel) (paCons (pdOp r2Div op_fdivW (pdOp r2Add op_add (pdV (pv 8)) (pdIx r2IxL ix_list (pdLst (paCons (pdC pe_int) (paCons (pdC pe_int) paNil))) (pdTy (T := "int") rsInt call_int1 (by rfl) T.b_int (by decide +kernel) (paCons (pdCmp r2Gt op_gt (pdV (pv 7)) (pdC pe_int) (nomark _)) paNil)) (fun _ _ => rfl))) (pdIx r2IxL ix_list (pdLst (paCons (pdC pe_int) (paCons (pdC pe_int) paNil))) (pdTy (T := "int") rsInt call_int1 (by rfl) T.b_int (by decide +kernel) (paCons (pdCmp r2Gt op_gt (pdV (pv 7)) (pdC pe_int) (nomark _)) paNil)) (fun _ _ => rfl))) (paCons (pdOp r2Add op_add (pdC pe_int) (pdCall (fun _ _ _ q => (L_coin _ _ _ q).1) G_coin (hr.mono (by decide)) (by rfl) m_coin k_coin b_coin pass0 (paCons (pdV (pv 0)) (paCons (pdV (pv 8)) paNil)))) paNil))))
              (psOne (psSet (i := 10) sc_law_rows.nd rfl (Or.inl rfl) (pdB rs2I (call_min2 rfl) (by rfl) T.b_min (by decide +kernel) (paCons (pdV (pv 8)) (paCons (pdOp r2Add op_add (pdC pe_int) (pdCall (fun _ _ _ q => (L_coin _ _ _ q).1) G_coin (hr.mono (by decide)) (by rfl) m_coin k_coin b_coin pass0 (paCons (pdV (pv 0)) (paCons (pdV (pv 9)) paNil)))) paNil)))))) psNil)
            (psCons (psSet (i := 11) sc_law_rows.nd rfl (Or.inl rfl) (pdIx r2IxL ix_list (pdV (pv 1)) (pdCall (fun _ _ _ q => (L_coin _ _ _ q).1) G_coin (hr.mono (by decide)) (by rfl) m_coin k_coin b_coin pass0 (paCons (pdV (pv 0)) (paCons (pdB rsLen call_len_seq (by rfl) T.b_len (by decide +kernel) (paCons (pdV (pv 1)) paNil)) paNil))) (fun _ _ => rfl)))
            (psCons (psSet (i := 12) sc_law_rows.nd rfl (Or.inl rfl) (pdIx r2IxL ix_list (pdLst (paCons (pdC pe_str) (paCons (pdC pe_str) paNil))) (pdCall (fun _ _ _ q => (L_coin _ _ _ q).1) G_coin (hr.mono (by decide)) (by rfl) m_coin k_coin b_coin pass0 (paCons (pdV (pv 0)) (paCons (pdC pe_int) paNil))) (fun _ _ => rfl)))
            (psCons (psApp (by rfl) (pe_bm PySem.F.plainAttrs_list PySem.F.slot_list_append PySem.F.type_list_append mt_append (pv 4) (pa_cons (pdTup (paCons (pdV (pv 5)) (paCons (pdV (pv 11)) (paCons (pdV (pv 12)) (paCons (pdCall (fun _ _ _ q => (L_level _ _ _ q).1) G_level (hr.mono (by decide)) (by rfl) m_level k_level b_level pass0 (paCons (pdV (pv 0)) (paCons (pdV (pv 3)) paNil))) (paCons (pdV (pv 9)) (paCons (pdV (pv 8)) (paCons (pdV (pv 10)) (paCons (pdV (pv 6)) paNil))))))))) pa_nil)))
            (psCons (psSet (i := 5) sc_law_rows.nd rfl (Or.inl rfl) (pdOp r2Add op_add (pdOp r2Add op_add (pdV (pv 5)) (pdC pe_int)) (pdCall (fun _ _ _ q => (L_coin _ _ _ q).1) G_coin (hr.mono (by decide)) (by rfl) m_coin k_coin b_coin pass0 (paCons (pdV (pv 0)) (paCons (pdC pe_int) paNil)))))
            (psOne (psSet (i := 6) sc_law_rows.nd rfl (Or.inl rfl) (pdOp r2Add op_add (pdOp r2Add op_add (pdV (pv 6)) (pdC pe_int)) (pdCall (fun _ _ _ q => (L_coin _ _ _ q).1) G_coin (hr.mono (by decide)) (by rfl) m_coin k_coin b_coin pass0 (paCons (pdV (pv 0)) (paCons (pdC pe_int) paNil)))))))))))))))
          (psCons (psSet (i := 7) sc_law_rows.nd rfl (Or.inl rfl) (pdCall (fun _ _ _ q => (L_coin _ _ _ q).1) G_coin (hr.mono (by decide)) (by rfl) m_coin k_coin b_coin pass0 (paCons (pdV (pv 0)) (paCons (pdOp r2Add op_add (pdV (pv 2)) (pdC pe_int)) paNil))))
          (psFrz 4 (psOne (psRet (pdTup (paCons (pdOp r2Cat op_cat (pdSl slLD sl_list (pdV (pv 4)) (poSome (pdV (pv 7))) poNone) (pdSl slLD sl_list (pdV (pv 4)) poNone (poSome (pdV (pv 7))))) (paCons (pdV (pv 6)) paNil)))))))))))
  case data =>
    rintro rs (n : Int) Q ⟨ns, many, way, rfl, cc, h⟩
    obtain ⟨⟨hm0, hm1⟩, hw, ⟨hn0, hn1⟩, hok, hn2, hn3⟩ := cc.get
    repeat walk_at "d"
    refine ⟨cnd ⟨by decide, by omega⟩, fun r1 r1a r1b => ?_⟩
    repeat walk_at "d"
    refine ⟨cnd ⟨by decide, by omega⟩, fun r2 r2a r2b => ?_⟩
    repeat walk_at "d"
    refine ⟨by omega, by omega, ?_⟩
    refine ⟨fun i ρ (m : Int) => (n ≤ m ∧ m ≤ n + 2 + 20 * i) ∧ ∃ (rows : List Row) (a b : Int) (j7 j8 j9 j10 j11 j12 : DV), ρ = [.tape, .d (.list (ns.map PyData.str)), .d (.int many), .d (.int way), .own (rows.map Row.dat), .d (.int a), .d (.int b), j7, j8, j9, j10, j11, j12] ∧ rows.length = i ∧ RowsD rows a b ∧ (0 ≤ a ∧ a ≤ 8 + 4 * i) ∧ (0 ≤ b ∧ b ≤ 8 + 4 * i), ⟨⟨by omega, by omega⟩, [], _, _, _, _, _, _, _, _, rfl, rfl, .nil, ⟨by omega, by omega⟩, ⟨by omega, by omega⟩⟩, ?_, ?_⟩
    · rintro i d ρ m hd ⟨⟨hm2, hm3⟩, rows, a, b, j7, j8, j9, j10, j11, j12, rfl, hlen, hT, ⟨ha0, ha1⟩, ⟨hb0, hb1⟩⟩
      have hi : i < many.toNat := by
        have := (List.getElem?_eq_some_iff.mp hd).1
        rwa [List.length_map, List.length_range] at this
      rw [List.getElem?_map, List.getElem?_range hi] at hd
      cases hd
      repeat walk_at "d"
      refine ⟨cnd ⟨by decide, by omega⟩, fun c1 c1a c1b => ?_⟩
      obtain ⟨k, ek, k1, k2⟩ : ∃ k : Int, opIxL (.list [.int 9, .int 200, .int (10 ^ (9 : Int).toNat)]) (.int c1) = some (.d (.int k)) ∧ 1 ≤ k ∧ k ≤ 10 ^ 9 := by
        rcases ix3 (a := .int 9) (b := .int 200) (c := .int (10 ^ (9 : Int).toNat)) c1a c1b with e | e | e
        · exact ⟨9, e, by decide, by decide⟩
        · exact ⟨200, e, by decide, by decide⟩
        · exact ⟨10 ^ 9, e, by decide, by decide⟩
      repeat walk_at "d"
      refine ⟨_, ek, ?_⟩
      repeat walk_at "d"
      refine ⟨cnd ⟨⟨k1, by omega⟩, by omega⟩, fun lf lf0 lf1 => ?_⟩
      have hl1 : 1 ≤ 1 + lf ∧ 1 + lf ≤ 10 ^ 9 := by omega
      repeat walk_at "d"
      refine ⟨cnd ⟨by decide, by omega⟩, fun c2 c2a c2b => ?_⟩
      repeat walk_at "d"
      refine ite2 (fun q => ?_) (fun q => ?_)
      · have w0 : (0 : Int) ≤ (if (0 : Int) < (i : Int) then 1 else 0) ∧ (if (0 : Int) < (i : Int) then (1 : Int) else 0) < 2 := by split <;> omega
        obtain ⟨x, y, ex, ey, hxy⟩ : ∃ x y : Int, opIxL (.list [.int 19, .int 3]) (.int (if (0 : Int) < (i : Int) then 1 else 0)) = some (.d (.int x)) ∧ opIxL (.list [.int 20, .int 4]) (.int (if (0 : Int) < (i : Int) then 1 else 0)) = some (.d (.int y)) ∧ (x = 19 ∧ y = 20 ∨ x = 3 ∧ y = 4) := by
          by_cases q0 : (0 : Int) < (i : Int)
          · rw [if_pos q0]
            exact ⟨3, 4, rfl, rfl, .inr ⟨rfl, rfl⟩⟩
          · rw [if_neg q0]
            exact ⟨19, 20, rfl, rfl, .inl ⟨rfl, rfl⟩⟩
        repeat walk_at "d"
        refine ⟨_, bInt_dec ((0 : Int) < (i : Int)), ?_⟩
        repeat walk_at "d"
        refine ⟨_, ex, ?_⟩
        repeat walk_at "d"
        refine ⟨_, bInt_dec ((0 : Int) < (i : Int)), ?_⟩
        repeat walk_at "d"
        refine ⟨_, ey, ?_⟩
        repeat walk_at "d"
        have hdv : 0 ≤ (1 + lf + x) / y ∧ (1 + lf + x) / y ≤ 1 + lf + x := ⟨Int.ediv_nonneg (by omega) (by omega), Int.ediv_le_self _ (by omega)⟩
        refine ⟨_, if_pos (decide_eq_true (⟨by omega, by have := log_lt (i := y) (k := 10) (by omega) (by omega) (by decide); omega⟩ : CDivW (1 + lf + x) y)), ?_⟩
        repeat walk_at "d"
        refine ⟨cnd ⟨⟨by omega, by omega⟩, by omega⟩, fun c3 c3a c3b => ?_⟩
        repeat walk_at "d"
        have hpt : 1 ≤ (if 1 + c3 > (1 + lf + x) / y then 1 + c3 else (1 + lf + x) / y) ∧ (if 1 + c3 > (1 + lf + x) / y then 1 + c3 else (1 + lf + x) / y) < 2 ^ 40 := by split <;> omega
        have hp3 : 1 + lf ≤ 20 * (if 1 + c3 > (1 + lf + x) / y then 1 + c3 else (1 + lf + x) / y) := by
          rcases hxy with ⟨rfl, rfl⟩ | ⟨rfl, rfl⟩ <;> split <;> omega
        refine ⟨cnd ⟨⟨hpt.1, by have := hpt.2; exact Int.lt_of_lt_of_le this (by decide)⟩, by omega⟩, fun c4 c4a c4b => ?_⟩
        have hlm : ((ns.map PyData.str).length : Int) = ns.length := by rw [List.length_map]
        repeat walk_at "d"
        refine ⟨cnd ⟨⟨by omega, by omega⟩, by omega⟩, fun c5 c5a c5b => ?_⟩
        repeat walk_at "d"
        obtain ⟨who, hwho, ew⟩ := ixS (ns := ns) c5a (by omega)
        refine ⟨_, ew, ?_⟩
        repeat walk_at "d"
        refine ⟨cnd ⟨by decide, by omega⟩, fun c6 c6a c6b => ?_⟩
        obtain ⟨sd, esd, hsd⟩ : ∃ sd : Str, opIxL (.list [.str "buy", .str "sell"]) (.int c6) = some (.d (.str sd)) ∧ (sd = "buy" ∨ sd = "sell") := by
          rcases ix2 (a := .str "buy") (b := .str "sell") c6a c6b with e | e
          · exact ⟨_, e, .inl rfl⟩
          · exact ⟨_, e, .inr rfl⟩
        repeat walk_at "d"
        refine ⟨_, esd, ?_⟩
        repeat walk_at "d"
        refine ⟨cnd ⟨hw, by omega⟩, fun pr cpr => ?_⟩
        have hpr := cpr.get
        repeat walk_at "d"
        refine ⟨by rw [List.length_map]; omega, ?_⟩
        repeat walk_at "d"
        refine ⟨cnd ⟨by decide, by omega⟩, fun c7 c7a c7b => ?_⟩
        repeat walk_at "d"
        refine ⟨cnd ⟨by decide, by omega⟩, fun c8 c8a c8b => ?_⟩
        repeat walk_at "d"
        refine ⟨⟨by omega, by omega⟩, rows ++ [⟨a, who, sd, pr, some (if 1 + c3 > (1 + lf + x) / y then 1 + c3 else (1 + lf + x) / y), 1 + lf, if 1 + c4 < 1 + lf then 1 + c4 else 1 + lf, b⟩], a + 1 + c7, b + 1 + c8, .d (.int (i : Nat)), .d (.int (1 + lf)), .d (datP (some (if 1 + c3 > (1 + lf + x) / y then 1 + c3 else (1 + lf + x) / y))), .d (.int (if 1 + c4 < 1 + lf then 1 + c4 else 1 + lf)), .d (.str who), .d (.str sd), ?_, by rw [List.length_append]; show _ + 1 = _; omega, hT.add (rowD_part (hok who hwho) hsd hpr hl1 hpt hp3 ?_) rfl rfl (by omega) (by omega) ha0 hb0, by omega, by omega⟩
        · rw [List.map_append]
          rfl
        · split <;> omega
      · have hlm : ((ns.map PyData.str).length : Int) = ns.length := by rw [List.length_map]
        repeat walk_at "d"
        refine ⟨cnd ⟨⟨by omega, by omega⟩, by omega⟩, fun c5 c5a c5b => ?_⟩
        repeat walk_at "d"
        obtain ⟨who, hwho, ew⟩ := ixS (ns := ns) c5a (by omega)
        refine ⟨_, ew, ?_⟩
        repeat walk_at "d"
        refine ⟨cnd ⟨by decide, by omega⟩, fun c6 c6a c6b => ?_⟩
        obtain ⟨sd, esd, hsd⟩ : ∃ sd : Str, opIxL (.list [.str "buy", .str "sell"]) (.int c6) = some (.d (.str sd)) ∧ (sd = "buy" ∨ sd = "sell") := by
          rcases ix2 (a := .str "buy") (b := .str "sell") c6a c6b with e | e
          · exact ⟨_, e, .inl rfl⟩
          · exact ⟨_, e, .inr rfl⟩
        repeat walk_at "d"
        refine ⟨_, esd, ?_⟩
        repeat walk_at "d"
        refine ⟨cnd ⟨hw, by omega⟩, fun pr cpr => ?_⟩
        have hpr := cpr.get
        repeat walk_at "d"
        refine ⟨by rw [List.length_map]; omega, ?_⟩
        repeat walk_at "d"
        refine ⟨cnd ⟨by decide, by omega⟩, fun c7 c7a c7b => ?_⟩
        repeat walk_at "d"
        refine ⟨cnd ⟨by decide, by omega⟩, fun c8 c8a c8b => ?_⟩
        repeat walk_at "d"
        refine ⟨⟨by omega, by omega⟩, rows ++ [⟨a, who, sd, pr, none, 1 + lf, 1 + lf, b⟩], a + 1 + c7, b + 1 + c8, .d (.int (i : Nat)), .d (.int (1 + lf)), .d (datP (none)), .d (.int (1 + lf)), .d (.str who), .d (.str sd), ?_, by rw [List.length_append]; show _ + 1 = _; omega, hT.add (rowD_all (hok who hwho) hsd hpr hl1) rfl rfl (by omega) (by omega) ha0 hb0, by omega, by omega⟩
        rw [List.map_append]
        rfl
    · rintro ρ m ⟨⟨hm2, hm3⟩, rows, a, b, j7, j8, j9, j10, j11, j12, rfl, hlen, hT, ⟨ha0, ha1⟩, ⟨hb0, hb1⟩⟩
      rw [List.length_map, List.length_range] at hlen hm3 ha1 hb1
      repeat walk_at "d"
      refine ⟨cnd ⟨⟨by omega, by omega⟩, by omega⟩, fun r ra rb => ?_⟩
      repeat walk_at "d"
      obtain ⟨ys, e1, py, ly⟩ := cut_two rows ra
      refine ⟨_, opCat_ok (by omega), ?_⟩
      rw [e1]
      repeat walk_at "d"
      exact h ys _ _ _ (cnd ⟨by rw [py.length_eq]; omega, hT.perm py.symm, by omega, by omega, by omega⟩)
end

end
section
variable [Tabz]
local macro_rules | `(tactic| walk_at "d") => `(tactic| first | refine Or.inl ⟨_, rfl, ?_⟩ | refine Or.inr ⟨rfl, ?_⟩ | refine ⟨Nat.le_of_ble_eq_true rfl, ?_⟩ | refine ⟨⟨_, rfl⟩, ?_⟩ | refine ⟨_, rfl, ?_⟩ | refine ⟨_, _, rfl, ?_⟩ | refine ⟨_, _, _, rfl, ?_⟩ | refine ⟨_, _, _, _, rfl, ?_⟩)
section
variable {P : Program} {w : World} {K : PySem.W.Frag} {mg : Str → Option Value} {base : Heap}
def mComing : DM := fun rs (n : Int) Q => ∃ (ns : List Str) (way : Int), rs = [.tape, .d (.list (ns.map PyData.str)), .d (.int way)] ∧ Cnd ((0 ≤ way ∧ way < 4) ∧ (0 < ns.length ∧ ns.length ≤ 1000) ∧ (∀ s ∈ ns, PyData.strOk s = true) ∧ 0 ≤ n ∧ n + 100 < 2 ^ 30) ∧
  ∀ (c : Com) (n' : Int), Cnd (GuardOk c.guard ∧ (1 ≤ c.left ∧ c.left ≤ 10 ^ 9) ∧ (c.side = "buy" ∨ c.side = "sell") ∧ PyData.strOk c.who = true ∧ (900 ≤ c.num ∧ c.num ≤ 908) ∧ (∀ p, c.price = some p → 1 ≤ p ∧ p ≤ 10 ^ 6) ∧ n ≤ n' ∧ n' ≤ n + 40) → Q (.d c.dat) n'
theorem L_coming : ∀ rs n Q, mComing rs n Q → plainR rs ∧ rs.length = 3 := by
  rintro rs (n : Int) Q ⟨ns, w, rfl, h⟩
  exact tapeR (ds := [_, _]) rfl
abbrev s_law_coming : Stmt := topS 30
theorem sc_law_coming : FnScope ["purse", "names", "way", "side", "limit", "left", "who"] ["purse", "names", "way"] (defScope s_law_coming) := ⟨rfl, rfl, rfl, by decide +kernel, rfl, by decide +kernel, by decide +kernel⟩
theorem ok_coming {f : Addr} {fd : FuncData} (F : Fun K "_law_coming" "_law_coming" s_law_coming f fd) (T : Txt mg) (c_coin : Cal P w K mg base 1 "_law_coin" ["purse", "many"] (spD mCoin)) (c_level : Cal P w K mg base 2 "_law_level" ["purse", "way"] (spD mLevel)) : FnOk P w K mg base CX0 3 f fd ["purse", "names", "way"] (spD mComing) := by
  apply okD F sc_law_coming L_coming
  case body =>
    intro cdv A outer s H E hr
    obtain ⟨f_coin, fd_coin, G_coin, m_coin, k_coin, b_coin⟩ := c_coin
    obtain ⟨f_level, fd_level, G_level, m_level, k_level, b_level⟩ := c_level
    exact (psCons (psSet (i := 3) sc_law_coming.nd rfl (Or.inl rfl) (pdIx r2IxL ix_list (pdLst (paCons (pdC pe_str) (paCons (pdC pe_str) paNil))) (pdCall (fun _ _ _ q => (L_coin _ _ _ q).1) G_coin (hr.mono (by decide)) (by rfl) m_coin k_coin b_coin pass0 (paCons (pdV (pv 0)) (paCons (pdC pe_int) paNil))) (fun _ _ => rfl)))
          (psCons (psSet (i := 4) sc_law_coming.nd rfl (Or.inl rfl) (pdIx r2IxL ix_list (pdLst (paCons (pdC pe_non) (paCons (pdCall (fun _ _ _ q => (L_level _ _ _ q).1) G_level (hr.mono (by decide)) (by rfl) m_level k_level b_level pass0 (paCons (pdV (pv 0)) (paCons (pdV (pv 2)) paNil))) (paCons (pdCall (fun _ _ _ q => (L_level _ _ _ q).1) G_level (hr.mono (by decide)) (by rfl) m_level k_level b_level pass0 (paCons (pdV (pv 0)) (paCons (pdV (pv 2)) paNil))) paNil)))) (pdCall (fun _ _ _ q => (L_coin _ _ _ q).1) G_coin (hr.mono (by decide)) (by rfl) m_coin k_coin b_coin pass0 (paCons (pdV (pv 0)) (paCons (pdC pe_int) paNil))) (fun _ _ => rfl)))
          (psCons (psSet (i := 5) sc_law_coming.nd rfl (Or.inl rfl) (pdIx r2IxL ix_list (pdLst (paCons (pdOp r2Add op_add (pdC pe_int) (pdCall (fun _ _ _ q => (L_coin _ _ _ q).1) G_coin (hr.mono (by decide)) (by rfl) m_coin k_coin b_coin pass0 (paCons (pdV (pv 0)) (paCons (pdC pe_int) paNil)))) (paCons (pdOp r2Add op_add (pdC pe_int) (pdCall (fun _ _ _ q => (L_coin _ _ _ q).1) G_coin (hr.mono (by decide)) (by rfl) m_coin k_coin b_coin pass0 (paCons (pdV (pv 0)) (paCons (pdC pe_int) paNil)))) (paCons (pdOp r2Add op_add (pdC pe_int) (pdCall (fun _ _ _ q => (L_coin _ _ _ q).1) G_coin (hr.mono (by decide)) (by rfl) m_coin k_coin b_coin pass0 (paCons (pdV (pv 0)) (paCons (pdOp r2Pow op_pow (pdC pe_int) (pdC pe_int)) paNil)))) paNil)))) (pdCall (fun _ _ _ q => (L_coin _ _ _ q).1) G_coin (hr.mono (by decide)) (by rfl) m_coin k_coin b_coin pass0 (paCons (pdV (pv 0)) (paCons (pdC pe_int) paNil))) (fun _ _ => rfl)))
          (psCons (psSet (i := 6) sc_law_coming.nd rfl (Or.inl rfl) (pdIx r2IxL ix_list (pdV (pv 1)) (pdCall (fun _ _ _ q => (L_coin _ _ _ q).1) G_coin (hr.mono (by decide)) (by rfl) m_coin k_coin b_coin pass0 (paCons (pdV (pv 0)) (paCons (pdB rsLen call_len_seq (by rfl) T.b_len (by decide +kernel) (paCons (pdV (pv 1)) paNil)) paNil))) (fun _ _ => rfl)))
          (psOne (psRet (pdTup (paCons (pdOp r2Add op_add (pdC pe_int) (pdCall (fun _ _ _ q => (L_coin _ _ _ q).1) G_coin (hr.mono (by decide)) (by rfl) m_coin k_coin b_coin pass0 (paCons (pdV (pv 0)) (paCons (pdC pe_int) paNil)))) (paCons (pdV (pv 6)) (paCons (pdV (pv 3)) (paCons (pdV (pv 4)) (paCons (pdV (pv 5)) (paCons (pdIx r2IxL ix_list (pdLst (paCons (pdC pe_str) (paCons (pdC pe_str) (paCons (pdC pe_str) (paCons (pdC pe_str) paNil))))) (pdCall (fun _ _ _ q => (L_coin _ _ _ q).1) G_coin (hr.mono (by decide)) (by rfl) m_coin k_coin b_coin pass0 (paCons (pdV (pv 0)) (paCons (pdC pe_int) paNil))) (fun _ _ => rfl)) paNil)))))))))))))
  case data =>
    rintro rs (n : Int) Q ⟨ns, way, rfl, cc, h⟩
    obtain ⟨hw, ⟨hn0, hn1⟩, hok, hn2, hn3⟩ := cc.get
    have hlm : ((ns.map PyData.str).length : Int) = ns.length := by rw [List.length_map]
    repeat walk_at "d"
    refine ⟨cnd ⟨by decide, by omega⟩, fun c1 c1a c1b => ?_⟩
    obtain ⟨sd, esd, hsd⟩ : ∃ sd : Str, opIxL (.list [.str "buy", .str "sell"]) (.int c1) = some (.d (.str sd)) ∧ (sd = "buy" ∨ sd = "sell") := by
      rcases ix2 (a := .str "buy") (b := .str "sell") c1a c1b with e | e
      · exact ⟨_, e, .inl rfl⟩
      · exact ⟨_, e, .inr rfl⟩
    repeat walk_at "d"
    refine ⟨_, esd, ?_⟩
    repeat walk_at "d"
    refine ⟨cnd ⟨hw, by omega⟩, fun l1 cl1 => ?_⟩
    repeat walk_at "d"
    refine ⟨cnd ⟨hw, by omega⟩, fun l2 cl2 => ?_⟩
    repeat walk_at "d"
    refine ⟨cnd ⟨by decide, by omega⟩, fun c2 c2a c2b => ?_⟩
    obtain ⟨lm, elm, hlm2⟩ : ∃ lm : Option Int, opIxL (.list [.none, .int l1, .int l2]) (.int c2) = some (.d (datP lm)) ∧ ∀ p, lm = some p → 1 ≤ p ∧ p ≤ 10 ^ 6 := by
      rcases ix3 (a := .none) (b := .int l1) (c := .int l2) c2a c2b with e | e | e
      · exact ⟨none, e, fun p h => (by cases h)⟩
      · exact ⟨some l1, e, fun p h => (by cases h; exact cl1.get)⟩
      · exact ⟨some l2, e, fun p h => (by cases h; exact cl2.get)⟩
    repeat walk_at "d"
    refine ⟨_, elm, ?_⟩
    repeat walk_at "d"
    refine ⟨cnd ⟨by decide, by omega⟩, fun d1 d1a d1b => ?_⟩
    repeat walk_at "d"
    refine ⟨cnd ⟨by decide, by omega⟩, fun d2 d2a d2b => ?_⟩
    repeat walk_at "d"
    refine ⟨cnd ⟨by decide, by omega⟩, fun d3 d3a d3b => ?_⟩
    repeat walk_at "d"
    refine ⟨cnd ⟨by decide, by omega⟩, fun d4 d4a d4b => ?_⟩
    obtain ⟨lf, elf, hlf⟩ : ∃ lf : Int, opIxL (.list [.int (1 + d1), .int (1 + d2), .int (1 + d3)]) (.int d4) = some (.d (.int lf)) ∧ 1 ≤ lf ∧ lf ≤ 10 ^ 9 := by
      rcases ix3 (a := .int (1 + d1)) (b := .int (1 + d2)) (c := .int (1 + d3)) d4a d4b with e | e | e
      · exact ⟨_, e, by omega, by have e9 : (10 : Int) ^ (9 : Int).toNat = 10 ^ 9 := rfl; first | omega | (rw [e9] at *; omega)⟩
      · exact ⟨_, e, by omega, by have e9 : (10 : Int) ^ (9 : Int).toNat = 10 ^ 9 := rfl; first | omega | (rw [e9] at *; omega)⟩
      · exact ⟨_, e, by omega, by have e9 : (10 : Int) ^ (9 : Int).toNat = 10 ^ 9 := rfl; first | omega | (rw [e9] at *; omega)⟩
    repeat walk_at "d"
    refine ⟨_, elf, ?_⟩
    repeat walk_at "d"
    refine ⟨cnd ⟨⟨by omega, by omega⟩, by omega⟩, fun c5 c5a c5b => ?_⟩
    repeat walk_at "d"
    obtain ⟨who, hwho, ew⟩ := ixS (ns := ns) c5a (by omega)
    refine ⟨_, ew, ?_⟩
    repeat walk_at "d"
    refine ⟨cnd ⟨by decide, by omega⟩, fun c6 c6a c6b => ?_⟩
    repeat walk_at "d"
    refine ⟨cnd ⟨by decide, by omega⟩, fun c7 c7a c7b => ?_⟩
    obtain ⟨gd, egd, hgd⟩ : ∃ gd : Str, opIxL (.list [.str "old", .str "new", .str "both", .str "less"]) (.int c7) = some (.d (.str gd)) ∧ GuardOk gd := by
      rcases ix4 (a := .str "old") (b := .str "new") (c := .str "both") (d := .str "less") c7a c7b with e | e | e | e
      · exact ⟨_, e, .inl rfl⟩
      · exact ⟨_, e, .inr (.inl rfl)⟩
      · exact ⟨_, e, .inr (.inr (.inl rfl))⟩
      · exact ⟨_, e, .inr (.inr (.inr rfl))⟩
    repeat walk_at "d"
    refine ⟨_, egd, ?_⟩
    repeat walk_at "d"
    exact h ⟨900 + c6, who, sd, lm, lf, gd⟩ _ (cnd ⟨hgd, hlf, hsd, hok who hwho, ⟨by show 900 ≤ 900 + c6; omega, by show 900 + c6 ≤ 908; omega⟩, hlm2, by omega, by omega⟩)
end

end
section
variable [Bas] [Tabz] {P : Program} {w : World} {K : PySem.W.Frag} {mg : Str → Option Value} {base : Heap}
local instance (priority := high) yoFamL0 : Fam := famS
local macro_rules | `(tactic| walk_at "look") => `(tactic| first | assumption | exact sset_eq | (refine (sset_ne (by assumption)).trans ?_; walk_at "look"))
local macro_rules | `(tactic| walk_at "s") => `(tactic| first | refine Or.inl ⟨_, rfl, ?_⟩ | refine ⟨Nat.le_of_ble_eq_true rfl, ?_⟩ | refine ⟨_, rfl, ?_⟩ | refine ⟨.inr _, rfl, ?_⟩ | refine ifT rfl ?_ | refine ifF rfl ?_)
theorem ifT {b : Bool} {p q : Prop} (h : b = true) (hp : p) : if b = true then p else q := by rw [if_pos h]; exact hp
theorem ifF {b : Bool} {p q : Prop} (h : b = false) (hq : q) : if b = true then p else q := by rw [if_neg (by rw [h]; exact Bool.false_ne_true)]; exact hq
theorem at_map {α β : Type} {f : α → β} {xs : List α} {i : Nat} {d : β} (h : (xs.map f)[i]? = some d) : ∃ p, xs[i]? = some p ∧ d = f p := by
  rw [List.getElem?_map] at h
  cases e : xs[i]? with
  | none => rw [e] at h; cases h
  | some p => rw [e] at h; cases h; exact ⟨p, rfl, rfl⟩
def sumsD (t l o : Int) : List (Key × PyData) := [(.inr "trade", .int t), (.inr "less", .int l), (.inr "off", .int o)]
theorem sums_t (t l o : Int) : valD (sumsD t l o) (.inr "trade") = some (.int t) := rfl
theorem sums_l (t l o : Int) : valD (sumsD t l o) (.inr "less") = some (.int l) := rfl
theorem sums_o (t l o : Int) : valD (sumsD t l o) (.inr "off") = some (.int o) := rfl
theorem sums_pt (t l o x : Int) : putKD (sumsD t l o) (.inr "trade") (.int x) = sumsD x l o := rfl
theorem sums_pl (t l o x : Int) : putKD (sumsD t l o) (.inr "less") (.int x) = sumsD t x o := rfl
theorem sums_po (t l o x : Int) : putKD (sumsD t l o) (.inr "off") (.int x) = sumsD t l x := rfl
theorem any2 (m b s : Int) : ([PyData.int b, PyData.int s].any fun z => PyData.eqv z (.int m)) = true ↔ m = b ∨ m = s := by
  show (b == m || (s == m || false)) = true ↔ _
  rw [Bool.or_false, Bool.or_eq_true, beq_iff_eq, beq_iff_eq]
  exact ⟨Or.imp Eq.symm Eq.symm, Or.imp Eq.symm Eq.symm⟩
def kindE : Evt → Nat
  | .trade .. => 0
  | .less .. => 1
  | .off .. => 2
  | .shown .. => 3
def sumE (k : Nat) (m : Int) (es : List Evt) : Int := ((es.filter fun e => decide (kindE e = k)).map (amtE m)).sum
theorem sumE_all (m : Int) : ∀ es : List Evt, sumE 0 m es + sumE 1 m es + sumE 2 m es = goneOf m es
  | [] => rfl
  | e :: es => by
    have := sumE_all m es
    unfold sumE goneOf at this ⊢
    cases e <;> simp [amtE, kindE] at this ⊢ <;> omega
theorem sumE_take {k : Nat} {m : Int} {es : List Evt} {i : Nat} {e : Evt} (h : es[i]? = some e) : sumE k m (es.take (i + 1)) = sumE k m (es.take i) + if kindE e = k then amtE m e else 0 := by
  unfold sumE
  rw [List.take_succ, h, List.filter_append, List.map_append, List.sum_append]
  congr 1
  by_cases q : kindE e = k <;> simp [q]
def mGoneS : DM := fun rs n Q => ∃ (es : List Evt) (m : Int), rs = [.d (dEvts es), .d (.int m)] ∧ es.length ≤ 100000 ∧ ∀ S', Q (.d (.int (goneOf m es))) (n.1, S')
theorem L_goneS : ∀ rs n Q, mGoneS rs n Q → plainR rs ∧ rs.length = 2 := by
  rintro rs n Q ⟨es, m, rfl, _⟩
  exact plain2
abbrev s_law_gone : Stmt := topS 31
theorem sc_law_gone : FnScope ["events", "number", "sums", "event", "word"] ["events", "number"] (defScope s_law_gone) := ⟨rfl, rfl, rfl, by decide +kernel, rfl, by decide +kernel, by decide +kernel⟩
theorem ok_goneS {f : Addr} {fd : FuncData} (F : Fun K "_law_gone" "_law_gone" s_law_gone f fd) (T : Txt mg) : FnOk P w K mg base CX0 1 f fd ["events", "number"] (spD mGoneS) := by
  apply okD F sc_law_gone L_goneS
  case body =>
    intro cdv A outer s H E hr
    exact (psCons (psSet (i := 2) sc_law_gone.nd rfl (Or.inr rfl) (pdAbs (pdDisp (pds1 (pdC pe_str) (pdC pe_int) (pds1 (pdC pe_str) (pdC pe_int) (pds1 (pdC pe_str) (pdC pe_int) pds0))) rfl rfl (by simp) (Nat.le_of_ble_eq_true rfl))))
          (psCons (psFor PassesOwn.never rfl (piList (pdV (pv 0))) (pgN (pg_name (i := 3) sc_law_gone.nd rfl (Or.inl rfl)))
           (psCons (psIf (PW.pt (pwAnd (ptCmp r2Eq op_eq (pdIx r2IxT ix_tup (pdV (pv 3)) (pdC pe_int) (fun _ _ => rfl)) (pdC pe_str) (nomark _)) (pwAnd1 (ptCmp r2InT (op_inT hr.units65) (pdV (pv 1)) (pdSl slTD sl_tupA (pdV (pv 3)) (poSome (pdC pe_int)) (poSome (pdC pe_int))) (by rfl))))) (psOne (psSP (hu_of hr) (pdV (pv 2)) (pdC pe_str) (pdOp r2Add op_add (pdSG (pe_dget (hu_of hr) (pdV (pv 2)) (pdC pe_str) (fun _ _ => rfl))) (pdIx r2IxT ix_tup (pdV (pv 3)) (pdC pe_int) (fun _ _ => rfl))))) psNil)
            (psCons (psIf (PW.pt (pwAnd (ptCmp r2Eq op_eq (pdIx r2IxT ix_tup (pdV (pv 3)) (pdC pe_int) (fun _ _ => rfl)) (pdC pe_str) (nomark _)) (pwAnd1 (ptCmp r2InT (op_inT hr.units65) (pdV (pv 1)) (pdSl slTD sl_tupA (pdV (pv 3)) (poSome (pdC pe_int)) (poSome (pdC pe_int))) (by rfl))))) (psOne (psSP (hu_of hr) (pdV (pv 2)) (pdC pe_str) (pdOp r2Add op_add (pdSG (pe_dget (hu_of hr) (pdV (pv 2)) (pdC pe_str) (fun _ _ => rfl))) (pdIx r2IxT ix_tup (pdV (pv 3)) (pdC pe_int) (fun _ _ => rfl))))) psNil)
            (psOne (psIf (PW.pt (pwAnd (ptCmp r2Eq op_eq (pdIx r2IxT ix_tup (pdV (pv 3)) (pdC pe_int) (fun _ _ => rfl)) (pdC pe_str) (nomark _)) (pwAnd1 (ptCmp r2Eq op_eq (pdIx r2IxT ix_tup (pdV (pv 3)) (pdC pe_int) (fun _ _ => rfl)) (pdV (pv 1)) (nomark _))))) (psOne (psSP (hu_of hr) (pdV (pv 2)) (pdC pe_str) (pdOp r2Add op_add (pdSG (pe_dget (hu_of hr) (pdV (pv 2)) (pdC pe_str) (fun _ _ => rfl))) (pdIx r2IxT ix_tup (pdV (pv 3)) (pdC pe_int) (fun _ _ => rfl))))) psNil)))))
          (psOne (psRet (pdB rsSum (cr_sum rfl) (by rfl) T.b_sum (by decide +kernel) (paCons (pdLock ((pe_lc (own := [("word", 4)]) (tt := tYes) rfl sc_law_gone.nd (piKeysH (pdV (pv 2))) (blkOk_by (N := ["events", "number", "sums", "event", "word"]) (sc := defScope s_law_gone) (by decide +kernel)) (fun _ _ _ _ _ => (pgN (pg_name (i := 4) sc_law_gone.nd rfl (Or.inl rfl)))) (fun _ _ _ _ _ => pts_nil) (fun _ _ _ _ _ => (pdSG (pe_dget (hu_of hr) (pdV (pv 2)) (pdV (pv 4)) (fun _ _ => rfl))))).imp (lc_leS (by decide) yes_le))) paNil))))))
  case data =>
    rintro rs ⟨n1, S⟩ Q ⟨es, m, rfl, hlen, h⟩
    repeat walk_at "s"
    intro a ha
    repeat walk_at "s"
    refine ⟨fun i ρ (n : Int × Sto) => n.1 = n1 ∧ n.2 a = some (.dK (sumsD (sumE 0 m (es.take i)) (sumE 1 m (es.take i)) (sumE 2 m (es.take i)))) ∧ ∃ j3 : DV, ρ = [.d (dEvts es), .d (.int m), .d (hnd a), j3, .un], ⟨rfl, sset_eq, _, rfl⟩, ?_, ?_⟩
    · rintro i d ρ ⟨n2, S2⟩ hd ⟨e1, e2, j3, rfl⟩
      have e1 : n2 = n1 := e1
      have e2 : S2 a = some (.dK (sumsD (sumE 0 m (es.take i)) (sumE 1 m (es.take i)) (sumE 2 m (es.take i)))) := e2
      subst e1
      obtain ⟨e, he, rfl⟩ := at_map hd
      have s0 := sumE_take (k := 0) (m := m) he
      have s1 := sumE_take (k := 1) (m := m) he
      have s2 := sumE_take (k := 2) (m := m) he
      generalize sumE 0 m (es.take i) = t at e2 s0
      generalize sumE 1 m (es.take i) = l at e2 s1
      generalize sumE 2 m (es.take i) = o at e2 s2
      cases e with
      | shown x y =>
        repeat walk_at "s"
        refine ⟨rfl, ?_, _, rfl⟩
        rw [s0, s1, s2]
        simpa [kindE] using e2
      | trade b s p x =>
        repeat walk_at "s"
        refine ite2 (fun q => ?_) (fun q => ?_)
        · have q := (any2 m b s).mp q
          repeat walk_at "s"
          refine ⟨_, dkv_of e2, _, sums_t t l o, ?_⟩
          repeat walk_at "s"
          refine ⟨_, e2, Nat.le_of_ble_eq_true rfl, ?_⟩
          repeat walk_at "s"
          refine ⟨rfl, ?_, _, rfl⟩
          show sset S2 a _ a = _
          rw [sset_eq, s0, s1, s2, sums_pt]
          simp [kindE, amtE, q]
        · have q : ¬ (m = b ∨ m = s) := fun z => q ((any2 m b s).mpr z)
          repeat walk_at "s"
          refine ⟨rfl, ?_, _, rfl⟩
          rw [s0, s1, s2]
          simpa [kindE, amtE, q] using e2
      | off y x =>
        repeat walk_at "s"
        refine ite2 (fun q => ?_) (fun q => ?_)
        · have q : y = m := of_decide_eq_true q
          repeat walk_at "s"
          refine ⟨_, dkv_of e2, _, sums_o t l o, ?_⟩
          repeat walk_at "s"
          refine ⟨_, e2, Nat.le_of_ble_eq_true rfl, ?_⟩
          repeat walk_at "s"
          refine ⟨rfl, ?_, _, rfl⟩
          show sset S2 a _ a = _
          rw [sset_eq, s0, s1, s2, sums_po]
          simp [kindE, amtE, q]
        · have q : ¬ y = m := fun z => q (decide_eq_true z)
          repeat walk_at "s"
          refine ⟨rfl, ?_, _, rfl⟩
          rw [s0, s1, s2]
          simpa [kindE, amtE, q] using e2
      | less b s x =>
        repeat walk_at "s"
        refine ite2 (fun q => ?_) (fun q => ?_)
        · have q := (any2 m b s).mp q
          repeat walk_at "s"
          refine ⟨_, dkv_of e2, _, sums_l t l o, ?_⟩
          repeat walk_at "s"
          refine ⟨_, e2, Nat.le_of_ble_eq_true rfl, ?_⟩
          repeat walk_at "s"
          refine ⟨rfl, ?_, _, rfl⟩
          show sset S2 a _ a = _
          rw [sset_eq, s0, s1, s2, sums_pl]
          simp [kindE, amtE, q]
        · have q : ¬ (m = b ∨ m = s) := fun z => q ((any2 m b s).mpr z)
          repeat walk_at "s"
          refine ⟨rfl, ?_, _, rfl⟩
          rw [s0, s1, s2]
          simpa [kindE, amtE, q] using e2
    · rintro ρ ⟨n2, S2⟩ ⟨e1, e2, j3, rfl⟩
      have e1 : n2 = n1 := e1
      have e2 : S2 a = some (.dK (sumsD (sumE 0 m (es.take (es.map Evt.dat).length)) (sumE 1 m (es.take (es.map Evt.dat).length)) (sumE 2 m (es.take (es.map Evt.dat).length)))) := e2
      subst e1
      rw [List.length_map, List.take_length] at e2
      rw [← sumE_all m es] at h
      generalize sumE 0 m es = t at e2 h
      generalize sumE 1 m es = l at e2 h
      generalize sumE 2 m es = o at e2 h
      refine ⟨a, _, e2, fun od ws => ?_⟩
      repeat walk_at "s"
      refine ⟨a, od, ws, _, rfl, sset_eq, ?_⟩
      refine lcMapS [.int t, .int l, .int o] rfl (Nat.le_of_ble_eq_true rfl) rfl (fun i d y hd hy => ?_) ?_ sset_eq
      · have kk : dkv (sset S2 a (.dF od ws (sumsD t l o))) a = some (sumsD t l o) := dkvF_of sset_eq
        match i, hd, hy with
        | 0, hd, hy =>
          cases hd
          cases hy
          refine ⟨_, rfl, fun R hR => ?_⟩
          repeat walk_at "s"
          exact ⟨_, kk, _, sums_t t l o, hR _ rfl⟩
        | 1, hd, hy =>
          cases hd
          cases hy
          refine ⟨_, rfl, fun R hR => ?_⟩
          repeat walk_at "s"
          exact ⟨_, kk, _, sums_l t l o, hR _ rfl⟩
        | 2, hd, hy =>
          cases hd
          cases hy
          refine ⟨_, rfl, fun R hR => ?_⟩
          repeat walk_at "s"
          exact ⟨_, kk, _, sums_o t l o, hR _ rfl⟩
      refine ⟨sset_eq, ?_⟩
      repeat walk_at "s"
      have := h (sset (sset S2 a (.dF od ws (sumsD t l o))) a (.dK (sumsD t l o)))
      rw [show t + l + o = [t, l, o].sum by simp; omega] at this
      exact this

end
section
variable [Bas] [Tabz] {P : Program} {w : World} {K : PySem.W.Frag} {mg : Str → Option Value} {base : Heap}
local instance (priority := high) yoFamL1 : Fam := famB
/-! ### sums of what is gone, where there is no store -/
def mGoneB : DM := fun rs n Q => ∃ (es : List Evt) (m : Int), rs = [.d (dEvts es), .d (.int m)] ∧ es.length ≤ 100000 ∧ Q (.d (.int (goneOf m es))) n
theorem L_gone : ∀ rs n Q, mGoneB rs n Q → plainR rs ∧ rs.length = 2 := by
  rintro rs n Q ⟨es, m, rfl, _⟩
  exact plain2
theorem L_goneU : ∀ rs n Q, upM mGoneB rs n Q → plainR rs ∧ rs.length = 2 := fun rs n Q h => L_gone rs n.1 _ h
theorem ok_goneB {f : Addr} {fd : FuncData} (F : Fun K "_law_gone" "_law_gone" s_law_gone f fd) (T : Txt mg) : FnOk P w K mg base CX0 1 f fd ["events", "number"] (@spD famB _ mGoneB) :=
  down (ok_goneS F T) fun rs n Q ⟨es, m, e, hl, hq⟩ => ⟨es, m, e, hl, fun _ => hq⟩

end
section
variable [Bas] [Tabz] {P : Program} {w : World} {K : PySem.W.Frag} {mg : Str → Option Value} {base : Heap}
local instance (priority := high) yoFamL2 : Fam := famS
local macro_rules | `(tactic| walk_at "s") => `(tactic| first | refine Or.inl ⟨_, rfl, ?_⟩ | refine ⟨Nat.le_of_ble_eq_true rfl, ?_⟩ | refine ⟨_, rfl, ?_⟩ | refine ⟨_, _, rfl, ?_⟩ | refine ifT rfl ?_ | refine ifF rfl ?_)
/-! ### one trade, with a row of the other side -/
theorem sell_buyK : ¬ (("sell" : Str) = "buy") := by decide +kernel
def SideOk (s : Str) : Prop := s = "buy" ∨ s = "sell"
def mTR : DM := fun rs n Q => ∃ (r : Row) (x : Int) (a : Addr) (kvs : List (Key × PyData)) (c : Com) (near : Int) (band : Option Int), rs = [.d (tradeE c (r, x)).dat, .d (hnd a), .d c.dat, .d (.int near), .d (datP band)] ∧ dkv n.2 a = some kvs ∧ valD kvs (.inl r.num) = some r.dat ∧ SideOk c.side ∧
  r.who ≠ c.who ∧ r.side = agM c.side ∧ letsM c.price c.side r.price = true ∧ farM r.price band near = false ∧ 1 ≤ x ∧ Q (.d (.bool true)) n
theorem L_trade_right : ∀ rs n Q, mTR rs n Q → plainR rs ∧ rs.length = 5 := by
  rintro rs n Q ⟨r, x, a, kvs, c, near, band, rfl, _⟩
  exact plainOf_R (ds := [_, _, _, _, _]) rfl
abbrev s_law_trade_right : Stmt := topS 32
theorem sc_law_trade_right : FnScope ["event", "there", "coming", "near", "width", "pair", "row"] ["event", "there", "coming", "near", "width"] (defScope s_law_trade_right) := ⟨rfl, rfl, rfl, by decide +kernel, rfl, by decide +kernel, by decide +kernel⟩
theorem ok_trR {f : Addr} {fd : FuncData} (F : Fun K "_law_trade_right" "_law_trade_right" s_law_trade_right f fd) (T : Txt mg) : FnOk P w K mg base CX0 1 f fd ["event", "there", "coming", "near", "width"] (spD mTR) := by
  apply okD F sc_law_trade_right L_trade_right
  case body =>
    intro cdv A outer s H E hr
    exact (psCons (psSet (i := 5) sc_law_trade_right.nd rfl (Or.inl rfl) (pdSl slTD sl_tupA (pdV (pv 0)) (poSome (pdC pe_int)) (poSome (pdC pe_int))))
          (psCons (psIf (ptCmp r2Eq op_eq (pdIx r2IxT ix_tup (pdV (pv 2)) (pdC pe_int) (fun _ _ => rfl)) (pdC pe_str) (nomark _)) (psOne (psSet (i := 5) sc_law_trade_right.nd rfl (Or.inl rfl) (pdRevT2 (pe_revT2 (pdV (pv 5)))))) psNil)
          (psCons (psIf (PW.pt (pwOr (ptCmp r2Ne op_ne (pdIx r2IxT ix_tup (pdV (pv 5)) (pdC pe_int) (fun _ _ => rfl)) (pdIx r2IxT ix_tup (pdV (pv 2)) (pdC pe_int) (fun _ _ => rfl)) (nomark _)) (pwOr (ptNotInH (hu_of hr) (pdIx r2IxT ix_tup (pdV (pv 5)) (pdC pe_int) (fun _ _ => rfl)) (pdV (pv 1))) (pwOr1 (ptCmp r2Lt op_lt (pdIx r2IxT ix_tup (pdV (pv 0)) (pdC pe_int) (fun _ _ => rfl)) (pdC pe_int) (nomark _)))))) (psOne (psRet (pdC pe_bl))) psNil)
          (psCons (psSet (i := 6) sc_law_trade_right.nd rfl (Or.inl rfl) (pdSG (pe_dget (hu_of hr) (pdV (pv 1)) (pdIx r2IxT ix_tup (pdV (pv 5)) (pdC pe_int) (fun _ _ => rfl)) (fun _ _ => rfl))))
          (psCons (psIf (PW.pt (pwOr (ptCmp r2Eq op_eq (pdIx r2IxT ix_tup (pdV (pv 6)) (pdC pe_int) (fun _ _ => rfl)) (pdIx r2IxT ix_tup (pdV (pv 2)) (pdC pe_int) (fun _ _ => rfl)) (nomark _)) (pwOr (ptCmp r2Eq op_eq (pdIx r2IxT ix_tup (pdV (pv 6)) (pdC pe_int) (fun _ _ => rfl)) (pdIx r2IxT ix_tup (pdV (pv 2)) (pdC pe_int) (fun _ _ => rfl)) (nomark _)) (pwOr1 (ptCmp r2Ne op_ne (pdIx r2IxT ix_tup (pdV (pv 0)) (pdC pe_int) (fun _ _ => rfl)) (pdIx r2IxT ix_tup (pdV (pv 6)) (pdC pe_int) (fun _ _ => rfl)) (nomark _)))))) (psOne (psRet (pdC pe_bl))) psNil)
          (psCons (psIf (PW.pt (pwAnd (ptCmp r2NotN op_notN (pdV (pv 4)) (pdC pe_non) (nomark _)) (pwAnd1 (ptCmp r2Gt op_gt (pdB rsAbs call_abs (by rfl) T.b_abs (by decide +kernel) (paCons (pdOp r2Sub op_sub (pdIx r2IxT ix_tup (pdV (pv 0)) (pdC pe_int) (fun _ _ => rfl)) (pdV (pv 3))) paNil)) (pdV (pv 4)) (nomark _))))) (psOne (psRet (pdC pe_bl))) psNil)
          (psCons (psIf (ptCmp r2IsN op_isN (pdIx r2IxT ix_tup (pdV (pv 2)) (pdC pe_int) (fun _ _ => rfl)) (pdC pe_non) (nomark _)) (psOne (psRet (pdC pe_bl))) psNil)
          (psCons (psIf (ptCmp r2Eq op_eq (pdIx r2IxT ix_tup (pdV (pv 2)) (pdC pe_int) (fun _ _ => rfl)) (pdC pe_str) (nomark _)) (psOne (psRet (pdCmp r2Ge op_ge (pdIx r2IxT ix_tup (pdV (pv 0)) (pdC pe_int) (fun _ _ => rfl)) (pdIx r2IxT ix_tup (pdV (pv 2)) (pdC pe_int) (fun _ _ => rfl)) (nomark _)))) psNil)
          (psOne (psRet (pdCmp r2Le op_le (pdIx r2IxT ix_tup (pdV (pv 0)) (pdC pe_int) (fun _ _ => rfl)) (pdIx r2IxT ix_tup (pdV (pv 2)) (pdC pe_int) (fun _ _ => rfl)) (nomark _))))))))))))
  case data =>
    rintro rs n Q ⟨r, x, a, kvs, c, near, band, rfl, hk, hv, hs, hw, hsd, hl, hf, hx, h⟩
    obtain ⟨cn, cw, cs, cp, cl, cg⟩ := c
    obtain ⟨rn, rw', rs', rp, rpt, rl, rse, rr⟩ := r
    have hs : cs = "buy" ∨ cs = "sell" := hs
    dsimp only at hv hw hsd hl hf
    rcases hs with rfl | rfl
    · have e1 : rs' = "sell" := hsd.trans (by decide +kernel)
      subst e1
      have et : tradeE ⟨cn, cw, "buy", cp, cl, cg⟩ (⟨rn, rw', "sell", rp, rpt, rl, rse, rr⟩, x) = .trade cn rn rp x := if_pos rfl
      rw [et]
      repeat walk_at "s"
      refine ifF (by simp) ?_
      repeat walk_at "s"
      refine ⟨.inl rn, rfl, _, rfl, _, hk, ?_⟩
      refine ifF (by rw [hv]; rfl) ?_
      repeat walk_at "s"
      refine ifF (decide_eq_false (by omega)) ?_
      repeat walk_at "s"
      refine ⟨.inl rn, rfl, _, hk, _, hv, ?_⟩
      repeat walk_at "s"
      refine ifF (decide_eq_false hw) ?_
      repeat walk_at "s"
      refine ifF (by simp) ?_
      repeat walk_at "s"
      cases band with
      | none =>
        repeat walk_at "s"
        cases cp with
        | none =>
          repeat walk_at "s"
          exact h
        | some cp =>
          repeat walk_at "s"
          show Q (.d (.bool (decide (rp ≤ cp)))) n
          rw [show decide (rp ≤ cp) = true from hl]
          exact h
      | some wd =>
        repeat walk_at "s"
        refine ifF hf ?_
        repeat walk_at "s"
        cases cp with
        | none =>
          repeat walk_at "s"
          exact h
        | some cp =>
          repeat walk_at "s"
          show Q (.d (.bool (decide (rp ≤ cp)))) n
          rw [show decide (rp ≤ cp) = true from hl]
          exact h
    · have e1 : rs' = "buy" := hsd.trans (by decide +kernel)
      subst e1
      have et : tradeE ⟨cn, cw, "sell", cp, cl, cg⟩ (⟨rn, rw', "buy", rp, rpt, rl, rse, rr⟩, x) = .trade rn cn rp x := if_neg sell_buyK
      rw [et]
      repeat walk_at "s"
      refine ifF (by simp) ?_
      repeat walk_at "s"
      refine ⟨.inl rn, rfl, _, rfl, _, hk, ?_⟩
      refine ifF (by rw [hv]; rfl) ?_
      repeat walk_at "s"
      refine ifF (decide_eq_false (by omega)) ?_
      repeat walk_at "s"
      refine ⟨.inl rn, rfl, _, hk, _, hv, ?_⟩
      repeat walk_at "s"
      refine ifF (decide_eq_false hw) ?_
      repeat walk_at "s"
      refine ifF (by simp) ?_
      repeat walk_at "s"
      cases band with
      | none =>
        repeat walk_at "s"
        cases cp with
        | none =>
          repeat walk_at "s"
          exact h
        | some cp =>
          repeat walk_at "s"
          show Q (.d (.bool (decide (cp ≤ rp)))) n
          rw [show decide (cp ≤ rp) = true from hl]
          exact h
      | some wd =>
        repeat walk_at "s"
        refine ifF hf ?_
        repeat walk_at "s"
        cases cp with
        | none =>
          repeat walk_at "s"
          exact h
        | some cp =>
          repeat walk_at "s"
          show Q (.d (.bool (decide (cp ≤ rp)))) n
          rw [show decide (cp ≤ rp) = true from hl]
          exact h

end
section
variable [Bas] [Tabz] {P : Program} {w : World} {K : PySem.W.Frag} {mg : Str → Option Value} {base : Heap}
local instance (priority := high) yoFamL3 : Fam := famS
local macro_rules | `(tactic| walk_at "s") => `(tactic| first | refine Or.inl ⟨_, rfl, ?_⟩ | refine ⟨Nat.le_of_ble_eq_true rfl, ?_⟩ | refine ⟨_, rfl, ?_⟩ | refine ⟨_, _, rfl, ?_⟩ | refine ifT rfl ?_ | refine ifF rfl ?_)
/-! ### nobody else's row that is left was passed over -/
theorem lcFMa {α : Type} {ps : List α} {fv : α → PyData} {g : DG} {t : DT} {hD : DF} {vs : List Nat} {ρ : List DV} {n : Fam.S} {Q : DQ} (q : α → Bool) (out : α → PyData) (own : (vs.all fun j => match ρ[j]? with | some x => !x.isOwn | none => false) = true) (big : ps.length ≤ 100000)
    (step : ∀ p ∈ ps, ∃ ρ', g (fv p) (wipeD ρ vs) = some ρ' ∧ (∀ R : Bool → Fam.S → Prop, R (q p) n → t ρ' n R) ∧ (q p = true → ∀ R : DQ, (∀ r, r.dat = some (out p) → R r n) → hD ρ' n R)) (fin : Q (.own ((ps.filter q).map out)) n) : LcOk g t hD vs ρ Q (ps.map fv) n := by
  refine ⟨own, by rw [List.length_map]; exact big, fun i acc m => m = n ∧ acc = ((ps.take i).filter q).map out, ⟨rfl, rfl⟩, ?_, ?_⟩
  · rintro i d acc m hd ⟨rfl, rfl⟩
    obtain ⟨p, hp, rfl⟩ := at_map hd
    obtain ⟨ρ', e1, h1, h2⟩ := step p (List.mem_of_getElem? hp)
    refine ⟨ρ', e1, h1 _ ?_⟩
    have et : ((ps.take (i + 1)).filter q).map out = ((ps.take i).filter q).map out ++ if q p then [out p] else [] := by
      rw [List.take_succ, hp, List.filter_append, List.map_append]
      congr 1
      cases e : q p with
      | true => simp [e]
      | false => simp [e]
    cases e : q p with
    | true =>
      rw [if_pos rfl]
      refine h2 e _ fun r er => ⟨_, er, rfl, ?_⟩
      rw [et, e, if_pos rfl]
    | false =>
      rw [if_neg Bool.false_ne_true]
      refine ⟨rfl, ?_⟩
      rw [et, e, if_neg Bool.false_ne_true, List.append_nil]
  · rintro acc m ⟨rfl, rfl⟩
    rw [List.length_map, List.take_length] at *
    exact fin
theorem drop_oneK (out : List Int) : cutD (out.map PyData.int) (some 1) none = (out.drop 1).map PyData.int := by
  unfold cutD
  rw [show (some (1 : Int)) = some ((1 : Nat) : Int) from rfl, HT.sIx_nat, HT.sIx_none, List.take_of_length_le (by rw [List.length_drop]; exact Nat.le_refl _), List.length_map, ← List.map_drop]
  by_cases q : 1 ≤ out.length
  · rw [Nat.min_eq_left q]
  · rw [Nat.min_eq_right (by omega), List.drop_eq_nil_of_le (Nat.le_refl _), List.drop_eq_nil_of_le (by omega)]
theorem zip_eqK (L : List Int) : zipD (L.map PyData.int) (cutD (L.map PyData.int) (some 1) none) = (L.zip (L.drop 1)).map fun p => PyData.tuple [.int p.1, .int p.2] := by
  rw [drop_oneK]
  unfold zipD
  rw [List.zip_map, List.map_map]
  rfl
theorem mulW {a b : Int} (ha : a = 1 ∨ a = -1) (hb : 1 ≤ b ∧ b ≤ 10 ^ 6) : CMulW a b := wide_mul (a := 64) (b := 64) (by rcases ha with e | e <;> rw [e] <;> decide) (by
  have : b.natAbs ≤ 10 ^ 6 := by omega
  exact Nat.lt_of_le_of_lt this (by decide)) (by decide) (by decide) (by decide)
theorem last_at {L : List Int} {x : Int} (h : L.getLast? = some x) : atI (L.map PyData.int) (-1) = some (.int x) := by
  unfold L2.atI ixN
  cases L with
  | nil => cases h
  | cons y L =>
    rw [if_neg (by decide), if_pos (by rw [List.length_map, List.length_cons]; omega)]
    have : (-1 + (((y :: L).map PyData.int).length : Int)).toNat = L.length := by rw [List.length_map, List.length_cons]; omega
    show ((y :: L).map PyData.int)[(-1 + (((y :: L).map PyData.int).length : Int)).toNat]? = _
    rw [this, List.getElem?_map]
    rw [List.getLast?_eq_getElem?] at h
    rw [show (y :: L).length - 1 = L.length from rfl] at h
    rw [h]
    rfl
def priceD (e : Evt) : PyData := match priceE e with
  | some p => .int p
  | none => .none
theorem levels_eq (es : List Evt) : ((es.filter fun e => (priceE e).isSome).map priceD) = (levelsOf es).map PyData.int := by
  induction es with
  | nil => rfl
  | cons e es ih =>
    unfold levelsOf at ih ⊢
    rw [List.filter_cons, List.filterMap_cons]
    unfold priceD at ih ⊢
    cases q : priceE e with
    | none => simpa using ih
    | some p => simp [q, ih]
theorem levels_len (es : List Evt) : (levelsOf es).length ≤ es.length := List.length_filterMap_le _ _
theorem zip_pw {R : Int → Int → Prop} : ∀ {L : List Int}, L.Pairwise R → ∀ p ∈ L.zip (L.drop 1), R p.1 p.2
  | [], _, p, hp => by cases hp
  | [x], _, p, hp => by cases hp
  | x :: y :: L, h, p, hp => by
    rw [List.pairwise_cons] at h
    have hp : p ∈ (x, y) :: (y :: L).zip ((y :: L).drop 1) := hp
    rcases List.mem_cons.mp hp with e | e
    · rw [e]
      exact h.1 y List.mem_cons_self
    · exact zip_pw h.2 p e
theorem bet_buy {p q : Int} (h : betM (agM "buy") p q) : ¬ (1 * q < 1 * p) := by
  unfold betM at h
  rw [if_neg (by decide +kernel)] at h
  omega
theorem bet_sell {p q : Int} (h : betM (agM "sell") p q) : ¬ (-1 * q < -1 * p) := by
  unfold betM at h
  rw [if_pos (by decide +kernel)] at h
  omega
def mNP : DM := fun rs n Q => ∃ (es : List Evt) (rows : List Row) (c : Com), rs = [.d (dEvts es), .d (dRows rows), .d c.dat] ∧ (es.length ≤ 50000 ∧ rows.length ≤ 50000) ∧ SideOk c.side ∧ (levelsOf es).Pairwise (betM (agM c.side)) ∧ (∀ p ∈ levelsOf es, ∀ r ∈ rows, r.side ≠ c.side → betM (agM c.side) p r.price) ∧ ((∀ p ∈ levelsOf es, 1 ≤ p ∧ p ≤ 10 ^ 6) ∧ ∀ r ∈ rows, 1 ≤ r.price ∧ r.price ≤ 10 ^ 6) ∧ Q (.d (.bool true)) n
theorem L_none_passed : ∀ rs n Q, mNP rs n Q → plainR rs ∧ rs.length = 3 := by
  rintro rs n Q ⟨es, rows, c, rfl, _⟩
  exact plain3
abbrev s_law_none_passed : Stmt := topS 33
theorem sc_law_none_passed : FnScope ["events", "rows", "coming", "levels", "sign", "row", "event", "one", "other"] ["events", "rows", "coming"] (defScope s_law_none_passed) := ⟨rfl, rfl, rfl, by decide +kernel, rfl, by decide +kernel, by decide +kernel⟩
theorem ok_np {f : Addr} {fd : FuncData} (F : Fun K "_law_none_passed" "_law_none_passed" s_law_none_passed f fd) (T : Txt mg) : FnOk P w K mg base CX0 1 f fd ["events", "rows", "coming"] (spD mNP) := by
  apply okD F sc_law_none_passed L_none_passed
  case body =>
    intro cdv A outer s H E hr
    exact (psCons ((ps_setLc (i := 3) (own := [("event", 6)]) rfl sc_law_none_passed.nd rfl rfl (sw_true rfl rfl rfl (by decide +kernel)) (piList (pdV (pv 0))) (blkOk_by (N := ["events", "rows", "coming", "levels", "sign", "row", "event", "one", "other"]) (sc := defScope s_law_none_passed) (by decide +kernel)) (fun _ _ _ _ _ => (pgN (pg_name (i := 6) sc_law_none_passed.nd rfl (Or.inl rfl)))) (fun _ _ _ _ _ => (pts_one (ptCmp r2Eq op_eq (pdIx r2IxT ix_tup (pdV (pv 6)) (pdC pe_int) (fun _ _ => rfl)) (pdC pe_str) (nomark _)))) (fun _ _ _ _ _ => (pdIx r2IxT ix_tup (pdV (pv 6)) (pdC pe_int) (fun _ _ => rfl)))).imp (set_le2 (lc_le (by decide) (fun _ _ _ q => q))))
          (psCons (psSet (i := 4) sc_law_none_passed.nd rfl (Or.inr rfl) (pdC pe_int))
          (psCons (psIf (ptCmp r2Eq op_eq (pdIx r2IxT ix_tup (pdV (pv 2)) (pdC pe_int) (fun _ _ => rfl)) (pdC pe_str) (nomark _)) (psOne (psSet (i := 4) sc_law_none_passed.nd rfl (Or.inr rfl) (pdUn r1Neg un_neg (pdC pe_int)))) psNil)
          (psFrz 3 (psCons (psIf (ptCmp r2NeE (op_neE hr.units) ((pe_lc (own := [("one", 7), ("other", 8)]) rfl sc_law_none_passed.nd (piZip (pi_zip (by rfl) T.b_zip (paCons (pdV (pv 3)) (paCons (pdSl slLD sl_list (pdV (pv 3)) (poSome (pdC pe_int)) poNone) paNil)))) (blkOk_by (N := ["events", "rows", "coming", "levels", "sign", "row", "event", "one", "other"]) (sc := defScope s_law_none_passed) (by decide +kernel)) (fun _ _ _ _ _ => (pgTup (n := 2) rfl (pgCons (pgN (pg_name (i := 7) sc_law_none_passed.nd rfl (Or.inl rfl))) (pgCons (pgN (pg_name (i := 8) sc_law_none_passed.nd rfl (Or.inl rfl))) pgNil)))) (fun _ _ _ _ _ => (pts_one (ptCmp r2Lt op_lt (pdOp r2Mul op_mulW (pdV (pv 4)) (pdV (pv 8))) (pdOp r2Mul op_mulW (pdV (pv 4)) (pdV (pv 7))) (nomark _)))) (fun _ _ _ _ _ => (pdC pe_int))).imp (lc_le (by decide) (fun _ _ _ q => q))) (pdLst paNil) (nomark _)) (psOne (psRet (pdC pe_bl))) psNil)
          (psCons (psFor PassesOwn.never rfl (piList (pdV (pv 1))) (pgN (pg_name (i := 5) sc_law_none_passed.nd rfl (Or.inl rfl)))
           (psOne (psIf (PW.pt (pwAnd (ptCmp r2Ne op_ne (pdIx r2IxT ix_tup (pdV (pv 5)) (pdC pe_int) (fun _ _ => rfl)) (pdIx r2IxT ix_tup (pdV (pv 2)) (pdC pe_int) (fun _ _ => rfl)) (nomark _)) (pwAnd (ptCmp r2Ne op_ne (pdIx r2IxT ix_tup (pdV (pv 5)) (pdC pe_int) (fun _ _ => rfl)) (pdIx r2IxT ix_tup (pdV (pv 2)) (pdC pe_int) (fun _ _ => rfl)) (nomark _)) (pwAnd (ptCmp r2NeE (op_neE hr.units) (pdV (pv 3)) (pdLst paNil) (nomark _)) (pwAnd1 (ptCmp r2Lt op_lt (pdOp r2Mul op_mulW (pdV (pv 4)) (pdIx r2IxT ix_tup (pdV (pv 5)) (pdC pe_int) (fun _ _ => rfl))) (pdOp r2Mul op_mulW (pdV (pv 4)) (pdIx r2IxL ix_list (pdV (pv 3)) (pdUn r1Neg un_neg (pdC pe_int)) (fun _ _ => rfl))) (nomark _))))))) (psOne (psRet (pdC pe_bl))) psNil)))
          (psOne (psRet (pdC pe_bl)))))))))
  case data =>
    rintro rs n Q ⟨es, rows, c, rfl, ⟨he, hr⟩, hs, hl, hb, ⟨hp1, hp2⟩, h⟩
    repeat walk_at "s"
    refine lcFMa (fun e => (priceE e).isSome) priceD rfl (by omega) (fun e he2 => ?_) ?_
    · refine ⟨_, rfl, fun R hR => ?_, fun hq R hR => ?_⟩
      · cases e <;> (repeat walk_at "s") <;> exact hR
      · cases e with
        | trade b s p x =>
          repeat walk_at "s"
          exact hR _ rfl
        | _ => cases hq
    rw [levels_eq]
    have hll := levels_len es
    have hz := zip_pw hl
    generalize levelsOf es = L at hl hb hll hz hp1
    obtain ⟨cn, cw, cs, cp, cl, cg⟩ := c
    have hs : cs = "buy" ∨ cs = "sell" := hs
    dsimp only at hl hb hz
    rcases hs with rfl | rfl
    · clear hl
      repeat walk_at "s"
      show LcOk _ _ _ _ _ _ (zipD (L.map PyData.int) (cutD (L.map PyData.int) (some 1) none)) _
      rw [zip_eqK]
      refine lcFMa (fun _ => false) (fun _ => .none) rfl (by rw [List.length_zip]; omega) (fun p hp => ⟨_, rfl, fun R hR => ?_, fun z => by cases z⟩) ?_
      · have m1 := hp1 p.1 (List.of_mem_zip hp).1
        have m2 := hp1 p.2 (List.mem_of_mem_drop (List.of_mem_zip hp).2)
        repeat walk_at "s"
        refine ⟨_, if_pos (decide_eq_true (mulW (.inl rfl) m2)), ?_⟩
        repeat walk_at "s"
        refine ⟨_, if_pos (decide_eq_true (mulW (.inl rfl) m1)), ?_⟩
        repeat walk_at "s"
        have := bet_buy (hz p hp)
        rw [← decide_eq_false this] at hR
        exact hR
      rw [List.filter_eq_nil_iff.mpr fun _ _ => Bool.false_ne_true]
      repeat walk_at "s"
      refine ⟨fun i ρ m => m = n ∧ ∃ j : DV, ρ = [.d (dEvts es), .d (dRows rows), .d (Com.dat ⟨cn, cw, "buy", cp, cl, cg⟩), .d (.list (L.map PyData.int)), .d (.int (1)), j, .un, .un, .un], ⟨rfl, _, rfl⟩, ?_, ?_⟩
      · rintro i d ρ m hd ⟨rfl, j, rfl⟩
        obtain ⟨r, hr1, rfl⟩ := at_map hd
        have hr2 := List.mem_of_getElem? hr1
        repeat walk_at "s"
        refine ite2 (fun q1 => ?_) (fun q1 => ?_)
        · have q1 : r.side ≠ "buy" := by
            have q1 : (!decide (r.side = "buy")) = true := q1
            simpa using q1
          repeat walk_at "s"
          refine ite2 (fun q2 => ?_) (fun q2 => ?_)
          · repeat walk_at "s"
            cases eL : L.getLast? with
            | none =>
              have : L = [] := List.getLast?_eq_none_iff.mp eL
              subst this
              repeat walk_at "s"
              exact ⟨rfl, _, rfl⟩
            | some x =>
              have hx : x ∈ L := List.mem_of_getLast? eL
              have hbx := bet_buy (hb x hx r hr2 q1)
              have m1 := hp1 x hx
              have m2 := hp2 r hr2
              refine ifT (by cases L with | nil => cases hx | cons _ _ => rfl) ?_
              repeat walk_at "s"
              refine ⟨_, if_pos (decide_eq_true (mulW (.inl rfl) m2)), ?_⟩
              repeat walk_at "s"
              refine ⟨_, congrArg (Option.map DV.d) (last_at eL), ?_⟩
              repeat walk_at "s"
              refine ⟨_, if_pos (decide_eq_true (mulW (.inl rfl) m1)), ?_⟩
              repeat walk_at "s"
              refine ite2 (fun q3 => absurd (of_decide_eq_true q3) hbx) (fun _ => ?_)
              repeat walk_at "s"
              exact ⟨rfl, _, rfl⟩
          · repeat walk_at "s"
            exact ⟨rfl, _, rfl⟩
        · repeat walk_at "s"
          exact ⟨rfl, _, rfl⟩
      · rintro ρ m ⟨rfl, j, rfl⟩
        repeat walk_at "s"
        exact h
    · clear hl
      repeat walk_at "s"
      show LcOk _ _ _ _ _ _ (zipD (L.map PyData.int) (cutD (L.map PyData.int) (some 1) none)) _
      rw [zip_eqK]
      refine lcFMa (fun _ => false) (fun _ => .none) rfl (by rw [List.length_zip]; omega) (fun p hp => ⟨_, rfl, fun R hR => ?_, fun z => by cases z⟩) ?_
      · have m1 := hp1 p.1 (List.of_mem_zip hp).1
        have m2 := hp1 p.2 (List.mem_of_mem_drop (List.of_mem_zip hp).2)
        repeat walk_at "s"
        refine ⟨_, if_pos (decide_eq_true (mulW (.inr rfl) m2)), ?_⟩
        repeat walk_at "s"
        refine ⟨_, if_pos (decide_eq_true (mulW (.inr rfl) m1)), ?_⟩
        repeat walk_at "s"
        have := bet_sell (hz p hp)
        rw [← decide_eq_false this] at hR
        exact hR
      rw [List.filter_eq_nil_iff.mpr fun _ _ => Bool.false_ne_true]
      repeat walk_at "s"
      refine ⟨fun i ρ m => m = n ∧ ∃ j : DV, ρ = [.d (dEvts es), .d (dRows rows), .d (Com.dat ⟨cn, cw, "sell", cp, cl, cg⟩), .d (.list (L.map PyData.int)), .d (.int (-1)), j, .un, .un, .un], ⟨rfl, _, rfl⟩, ?_, ?_⟩
      · rintro i d ρ m hd ⟨rfl, j, rfl⟩
        obtain ⟨r, hr1, rfl⟩ := at_map hd
        have hr2 := List.mem_of_getElem? hr1
        repeat walk_at "s"
        refine ite2 (fun q1 => ?_) (fun q1 => ?_)
        · have q1 : r.side ≠ "sell" := by
            have q1 : (!decide (r.side = "sell")) = true := q1
            simpa using q1
          repeat walk_at "s"
          refine ite2 (fun q2 => ?_) (fun q2 => ?_)
          · repeat walk_at "s"
            cases eL : L.getLast? with
            | none =>
              have : L = [] := List.getLast?_eq_none_iff.mp eL
              subst this
              repeat walk_at "s"
              exact ⟨rfl, _, rfl⟩
            | some x =>
              have hx : x ∈ L := List.mem_of_getLast? eL
              have hbx := bet_sell (hb x hx r hr2 q1)
              have m1 := hp1 x hx
              have m2 := hp2 r hr2
              refine ifT (by cases L with | nil => cases hx | cons _ _ => rfl) ?_
              repeat walk_at "s"
              refine ⟨_, if_pos (decide_eq_true (mulW (.inr rfl) m2)), ?_⟩
              repeat walk_at "s"
              refine ⟨_, congrArg (Option.map DV.d) (last_at eL), ?_⟩
              repeat walk_at "s"
              refine ⟨_, if_pos (decide_eq_true (mulW (.inr rfl) m1)), ?_⟩
              repeat walk_at "s"
              refine ite2 (fun q3 => absurd (of_decide_eq_true q3) hbx) (fun _ => ?_)
              repeat walk_at "s"
              exact ⟨rfl, _, rfl⟩
          · repeat walk_at "s"
            exact ⟨rfl, _, rfl⟩
        · repeat walk_at "s"
          exact ⟨rfl, _, rfl⟩
      · rintro ρ m ⟨rfl, j, rfl⟩
        repeat walk_at "s"
        exact h

end
section
variable [Tabz]
local macro_rules | `(tactic| walk_at "d") => `(tactic| first | refine Or.inl ⟨_, rfl, ?_⟩ | refine Or.inr ⟨rfl, ?_⟩ | refine ⟨Nat.le_of_ble_eq_true rfl, ?_⟩ | refine ⟨⟨_, rfl⟩, ?_⟩ | refine ⟨_, rfl, ?_⟩ | refine ⟨_, _, rfl, ?_⟩ | refine ⟨_, _, _, rfl, ?_⟩ | refine ⟨_, _, _, _, rfl, ?_⟩)
local macro_rules | `(tactic| walk_at "om") => `(tactic| ((try dsimp only at *); omega))
def spLaw (K : PySem.W.Frag) : Sp := fun vs H Q _ => ∃ (a : Addr) (ns : List Int), vs = [.ref a] ∧ SqL K H a (ns.map V.int) ∧ ns.length ≤ 63 ∧ LamX.Tabs Tabz.T H ∧ ∀ H', Q (.bl true) H'
theorem cut_take3 (ns : List Str) (k : Nat) (hk : 0 < k) : cutD (ns.map PyData.str) none (some (k : Int)) = (ns.take k).map PyData.str := by
  unfold cutD
  rw [HT.sIx_nat, HT.sIx_none, List.drop_zero, Nat.sub_zero, List.length_map, List.map_take]
  rw [← List.take_take, List.take_of_length_le (l := ns.map PyData.str) (by rw [List.length_map]; exact Nat.le_refl _)]
theorem Phi21 {rs : List Row} (h : ∀ r ∈ rs, phi r ≤ 21) : Phi rs ≤ 21 * rs.length := by
  induction rs with
  | nil => exact Nat.le_refl _
  | cons r rs ih =>
    have h1 := h r List.mem_cons_self
    have h2 := ih fun x hx => h x (List.mem_cons_of_mem _ hx)
    show phi r + Phi rs ≤ 21 * (rs.length + 1)
    omega
/-! ### dicts of rows -/
def kvR (rs : List Row) : List (Key × PyData) := rs.map fun r => (.inl r.num, r.dat)
def kvL (rs : List Row) : List (Key × PyData) := rs.map fun r => (.inl r.num, .int r.left)
theorem putKD_new {kvs : List (Key × PyData)} {k : Key} {d : PyData} (h : ∀ kv ∈ kvs, kv.1 ≠ k) : putKD kvs k d = kvs ++ [(k, d)] := by
  unfold putKD
  rw [if_neg]
  intro z
  obtain ⟨kv, h1, h2⟩ := List.any_eq_true.mp z
  exact h kv h1 (of_decide_eq_true h2)
theorem nd_take {rs : List Row} (nd : (rs.map Row.num).Nodup) {i : Nat} {r : Row} (h : rs[i]? = some r) : ∀ x ∈ rs.take i, x.num ≠ r.num := fun x hx e => by
  have h1 : rs.take (i + 1) = rs.take i ++ [r] := by rw [List.take_succ, h]; rfl
  have h2 : ((rs.take (i + 1)).map Row.num).Nodup := ((List.take_sublist _ _).map _).nodup nd
  rw [h1, List.map_append] at h2
  exact (List.nodup_append.mp h2).2.2 _ (List.mem_map.mpr ⟨x, hx, rfl⟩) _ (List.mem_map.mpr ⟨r, List.mem_singleton.mpr rfl, rfl⟩) e
theorem take_one {rs : List Row} {i : Nat} {r : Row} (h : rs[i]? = some r) : rs.take (i + 1) = rs.take i ++ [r] := by rw [List.take_succ, h]; rfl
theorem put_kvR {rs : List Row} (nd : (rs.map Row.num).Nodup) {i : Nat} {r : Row} (h : rs[i]? = some r) : putKD (kvR (rs.take i)) (.inl r.num) r.dat = kvR (rs.take (i + 1)) := by
  rw [putKD_new, take_one h]
  · unfold kvR
    rw [List.map_append]
    rfl
  · intro kv hkv
    obtain ⟨x, hx, rfl⟩ := List.mem_map.mp hkv
    exact fun e => nd_take nd h x hx (Sum.inl.inj e)
theorem put_kvL {rs : List Row} (nd : (rs.map Row.num).Nodup) {i : Nat} {r : Row} (h : rs[i]? = some r) : putKD (kvL (rs.take i)) (.inl r.num) (.int r.left) = kvL (rs.take (i + 1)) := by
  rw [putKD_new, take_one h]
  · unfold kvL
    rw [List.map_append]
    rfl
  · intro kv hkv
    obtain ⟨x, hx, rfl⟩ := List.mem_map.mp hkv
    exact fun e => nd_take nd h x hx (Sum.inl.inj e)
theorem val_kvR : ∀ {rs : List Row}, (rs.map Row.num).Nodup → ∀ {r : Row}, r ∈ rs → valD (kvR rs) (.inl r.num) = some r.dat
  | x :: rs, nd, r, h => by
    rw [List.map_cons, List.nodup_cons] at nd
    unfold valD kvR
    rw [List.map_cons, List.find?_cons]
    by_cases e : x.num = r.num
    · rw [decide_eq_true (show (Sum.inl x.num : Key) = Sum.inl r.num by rw [e])]
      rcases List.mem_cons.mp h with z | z
      · rw [z]
        rfl
      · exact absurd (List.mem_map.mpr ⟨r, z, e.symm⟩) nd.1
    · rw [decide_eq_false fun z => e (Sum.inl.inj z)]
      rcases List.mem_cons.mp h with z | z
      · rw [z] at e
        exact absurd rfl e
      · exact val_kvR nd.2 z
theorem left_none {m : Int} : ∀ {rs : List Row}, (∀ r ∈ rs, r.num ≠ m) → leftOf m rs = 0
  | [], _ => rfl
  | x :: rs, h => by
    unfold leftOf
    rw [List.map_cons, List.sum_cons]
    have := left_none fun r hr => h r (List.mem_cons_of_mem _ hr)
    unfold leftOf at this
    rw [this]
    unfold lf
    rw [if_neg (h x List.mem_cons_self)]
    rfl
theorem left_mem : ∀ {rs : List Row}, (rs.map Row.num).Nodup → ∀ {r : Row}, r ∈ rs → leftOf r.num rs = r.left
  | x :: rs, nd, r, h => by
    rw [List.map_cons, List.nodup_cons] at nd
    unfold leftOf
    rw [List.map_cons, List.sum_cons]
    show lf r.num x + leftOf r.num rs = _
    rcases List.mem_cons.mp h with z | z
    · subst z
      rw [left_none fun y hy e => nd.1 (List.mem_map.mpr ⟨y, hy, e⟩)]
      unfold lf
      rw [if_pos rfl]
      omega
    · rw [left_mem nd.2 z]
      unfold lf
      rw [if_neg fun e => nd.1 (List.mem_map.mpr ⟨r, z, e.symm⟩)]
      omega
theorem val_kvL {m : Int} : ∀ {rs : List Row}, (rs.map Row.num).Nodup → (valD (kvL rs) (.inl m)).getD (.int 0) = .int (leftOf m rs)
  | [], _ => rfl
  | x :: rs, nd => by
    rw [List.map_cons, List.nodup_cons] at nd
    have ih := val_kvL (m := m) nd.2
    unfold valD kvL at ih ⊢
    rw [List.map_cons, List.find?_cons]
    by_cases e : x.num = m
    · rw [decide_eq_true (show (Sum.inl x.num : Key) = Sum.inl m by rw [e])]
      show PyData.int x.left = _
      have := left_mem (rs := x :: rs) (by rw [List.map_cons, List.nodup_cons]; exact nd) (r := x) List.mem_cons_self
      rw [← e, this]
    · rw [decide_eq_false fun z => e (Sum.inl.inj z)]
      refine ih.trans ?_
      unfold leftOf
      rw [List.map_cons, List.sum_cons]
      unfold lf
      rw [if_neg e]
      congr 1
      omega
theorem keys_kvR {rs : List Row} {i : Nat} {d : PyData} (h : (keysD (kvR rs))[i]? = some d) : ∃ r ∈ rs, d = .int r.num := by
  unfold keysD kvR at h
  rw [List.map_map] at h
  obtain ⟨r, h1, h2⟩ := at_map h
  exact ⟨r, List.mem_of_getElem? h1, h2⟩
theorem trade_shape (c : Com) (r : Row) (x : Int) : ∃ b s, tradeE c (r, x) = .trade b s r.price x := by
  unfold tradeE
  split
  · exact ⟨_, _, rfl⟩
  · exact ⟨_, _, rfl⟩
theorem nums_nd {rows : List Row} {num st : Int} (h : RowsD rows num st) : (rows.map Row.num).Nodup := by
  unfold List.Nodup
  rw [List.pairwise_map]
  have nd := h.nd
  unfold List.Nodup at nd
  exact nd.imp_of_mem fun {a b} ha hb h2 e => h2 (h.nums.1 a ha b hb e)
section
variable {P : Program} {w : World} {K : PySem.W.Frag} {mg : Str → Option Value} {base : Heap}
local instance (priority := high) yoFamL11 : Fam := famS
abbrev s_law : Stmt := topS 34
theorem sc_law : FnScope ["script", "k", "purse", "way", "names", "rows", "stamp", "turn", "coming", "near", "width", "word", "told", "events", "after", "left", "halted", "last", "there", "row", "stays", "number", "event"] ["script"] (defScope s_law) := ⟨rfl, rfl, rfl, by decide +kernel, rfl, by decide +kernel, by decide +kernel⟩
theorem ok_law {f : Addr} {fd : FuncData} (F : Fun K "law" "law" s_law f fd) (T : Txt mg) (c_purse : Cal P w K mg base 1 "_law_purse" ["script", "k"] (spPurse K)) (c_coin : Cal P w K mg base 1 "_law_coin" ["purse", "many"] (spD (upM mCoin)))
    (c_names : Cal P w K mg base 2 "_law_names" ["purse", "many"] (spD (upM mNames))) (c_level : Cal P w K mg base 2 "_law_level" ["purse", "way"] (spD (upM mLevel))) (c_rows : Cal P w K mg base 3 "_law_rows" ["purse", "names", "many", "way"] (spD (upM mRows))) (c_coming : Cal P w K mg base 3 "_law_coming" ["purse", "names", "way"] (spD (upM mComing)))
    (c_gone : Cal P w K mg base 1 "_law_gone" ["events", "number"] (spD (upM mGoneB))) (c_trade_right : Cal P w K mg base 1 "_law_trade_right" ["event", "there", "coming", "near", "width"] (spD mTR)) (c_none_passed : Cal P w K mg base 1 "_law_none_passed" ["events", "rows", "coming"] (spD mNP))
    (c_plain_meet : ∃ (f : Addr) (fd : FuncData), FnOk P w K mg base CX0 5 f fd ["rows", "coming", "rank", "band", "anchor", "rule"] (spD mMeetA) ∧ mg "plain_meet" = some (.ref f) ∧ PySem.W.keepIn K (.ref f) = true ∧ KBn K fd ["rows", "coming", "rank", "band", "anchor", "rule"] 2 ["rank", "band", "anchor", "rule"] (fun us ws => us ++ ws) (fun vs zs => vs ++ zs)) : FnOk P w K mg base CX0 9 f fd ["script"] (spLaw K) := by
  refine F.ok sc_law (fun vs H Q E h => ?_) (fun cdv A outer s H vs Q E hr h => ?_)
  · obtain ⟨a, ns, rfl, _⟩ := h
    rfl
  · obtain ⟨a, ns, rfl, hS, hlen, hT, k⟩ := h
    obtain ⟨f_coin, fd_coin, G_coin, m_coin, k_coin, b_coin⟩ := c_coin
    obtain ⟨f_coming, fd_coming, G_coming, m_coming, k_coming, b_coming⟩ := c_coming
    obtain ⟨f_gone, fd_gone, G_gone, m_gone, k_gone, b_gone⟩ := c_gone
    obtain ⟨f_level, fd_level, G_level, m_level, k_level, b_level⟩ := c_level
    obtain ⟨f_names, fd_names, G_names, m_names, k_names, b_names⟩ := c_names
    obtain ⟨f_none_passed, fd_none_passed, G_none_passed, m_none_passed, k_none_passed, b_none_passed⟩ := c_none_passed
    obtain ⟨f_purse, fd_purse, G_purse, m_purse, k_purse, b_purse⟩ := c_purse
    obtain ⟨f_rows, fd_rows, G_rows, m_rows, k_rows, b_rows⟩ := c_rows
    obtain ⟨f_trade_right, fd_trade_right, G_trade_right, m_trade_right, k_trade_right, b_trade_right⟩ := c_trade_right
    obtain ⟨f_plain_meet, fd_plain_meet, G_plain_meet, m_plain_meet, k_plain_meet, b_plain_meet⟩ := c_plain_meet
    refine ⟨_, (pss_cons (ps_for PassesOwn.never rfl (pi_range1 rfl T.b_range (pa_cons (pe_callB (call_max2 rfl) (by rfl) T.b_max (by decide +kernel) (pa_cons pe_int (pa_cons (pe_callB (call_min2 rfl) (by rfl) T.b_min (by decide +kernel) (pa_cons pe_int (pa_cons (pe_callB call_len_seq (by rfl) T.b_len PySem.boot_len (pa_cons (pv 0) pa_nil)) pa_nil))) pa_nil))) pa_nil)) (pg_name (i := 1) sc_law.nd rfl (Or.inl rfl))
          (pss_cons (ps_set (i := 2) sc_law.nd rfl (Or.inl rfl) (pe_call G_purse (hr.mono (by decide)) rfl m_purse k_purse b_purse .nil pass0 (pa_cons (pv 0) (pa_cons (pv 1) pa_nil))))
            (psCons (psSet (i := 3) sc_law.nd rfl (Or.inl rfl) (pdCall (fun _ _ _ q => (L_coin _ _ _ q).1) G_coin (hr.mono (by decide)) (by rfl) m_coin k_coin b_coin pass0 (paCons (pdV (pv 2)) (paCons (pdC pe_int) paNil))))
            (psCons (psSet (i := 4) sc_law.nd rfl (Or.inl rfl) (pdCall (fun _ _ _ q => (L_names _ _ _ q).1) G_names (hr.mono (by decide)) (by rfl) m_names k_names b_names pass0 (paCons (pdV (pv 2)) (paCons (pdOp r2Add op_add (pdC pe_int) (pdCall (fun _ _ _ q => (L_coin _ _ _ q).1) G_coin (hr.mono (by decide)) (by rfl) m_coin k_coin b_coin pass0 (paCons (pdV (pv 2)) (paCons (pdC pe_int) paNil)))) paNil))))
            (psFrz 4 (psCons (psAsg (pdCall (fun _ _ _ q => (L_rows _ _ _ q).1) G_rows (hr.mono (by decide)) (by rfl) m_rows k_rows b_rows pass0 (paCons (pdV (pv 2)) (paCons (pdSl slLD sl_list (pdV (pv 4)) poNone (poSome (pdC pe_int))) (paCons (pdCall (fun _ _ _ q => (L_coin _ _ _ q).1) G_coin (hr.mono (by decide)) (by rfl) m_coin k_coin b_coin pass0 (paCons (pdV (pv 2)) (paCons (pdC pe_int) paNil))) (paCons (pdV (pv 3)) paNil))))) (pgTup (n := 2) rfl (pgCons (pgN (pg_name (i := 5) sc_law.nd rfl (Or.inl rfl))) (pgCons (pgN (pg_name (i := 6) sc_law.nd rfl (Or.inl rfl))) pgNil))))
            (psOne (psFor PassesOwn.never rfl (piRng (pi_range1 (by rfl) T.b_range (paCons (pdC pe_int) paNil))) (pgN (pg_name (i := 7) sc_law.nd rfl (Or.inl rfl)))
             (psCons (psSet (i := 8) sc_law.nd rfl (Or.inl rfl) (pdCall (fun _ _ _ q => (L_coming _ _ _ q).1) G_coming (hr.mono (by decide)) (by rfl) m_coming k_coming b_coming pass0 (paCons (pdV (pv 2)) (paCons (pdV (pv 4)) (paCons (pdV (pv 3)) paNil)))))
              (psCons (psSet (i := 9) sc_law.nd rfl (Or.inl rfl) (pdCall (fun _ _ _ q => (L_level _ _ _ q).1) G_level (hr.mono (by decide)) (by rfl) m_level k_level b_level pass0 (paCons (pdV (pv 2)) (paCons (pdV (pv 3)) paNil))))
              (psCons (psSet (i := 10) sc_law.nd rfl (Or.inl rfl) (pdIx r2IxL ix_list (pdLst (paCons (pdC pe_non) (paCons (pdCall (fun _ _ _ q => (L_coin _ _ _ q).1) G_coin (hr.mono (by decide)) (by rfl) m_coin k_coin b_coin pass0 (paCons (pdV (pv 2)) (paCons (pdC pe_int) paNil))) paNil))) (pdCall (fun _ _ _ q => (L_coin _ _ _ q).1) G_coin (hr.mono (by decide)) (by rfl) m_coin k_coin b_coin pass0 (paCons (pdV (pv 2)) (paCons (pdC pe_int) paNil))) (fun _ _ => rfl)))
              (psCons (psSet (i := 11) sc_law.nd rfl (Or.inl rfl) (pdIx r2IxL ix_list (pdLst (paCons (pdC pe_str) (paCons (pdC pe_str) paNil))) (pdOp r2Mod op_mod (pdV (pv 7)) (pdC pe_int)) (fun _ _ => rfl)))
              (psCons (psSet (i := 12) sc_law.nd rfl (Or.inl rfl) (pdCallN kw_app G_plain_meet (hr.mono (by decide)) rfl m_plain_meet k_plain_meet b_plain_meet pass0 (paCons (pdV (pv 5)) (paCons (pdV (pv 8)) paNil)) (pkCons (pdV (pv 6)) (pkCons (pdV (pv 10)) (pkCons (pdV (pv 9)) (pkCons (pdV (pv 11)) pkNil))))))
              (psCons (psAsg (pdV (pv 12)) (pgTup (n := 5) rfl (pgCons (pgN (pg_name (i := 13) sc_law.nd rfl (Or.inl rfl))) (pgCons (pgN (pg_name (i := 14) sc_law.nd rfl (Or.inl rfl))) (pgCons (pgN (pg_name (i := 15) sc_law.nd rfl (Or.inl rfl))) (pgCons (pgN (pg_name (i := 16) sc_law.nd rfl (Or.inl rfl))) (pgCons (pgN (pg_name (i := 17) sc_law.nd rfl (Or.inl rfl))) pgNil)))))))
              (psCut (psSet (i := 18) sc_law.nd rfl (Or.inl rfl) (pdAbs (pdDNew pe_dnewK)))
              (psCons (psFor PassesOwn.never rfl (piList (pdV (pv 5))) (pgN (pg_name (i := 19) sc_law.nd rfl (Or.inl rfl)))
               (psOne (psSP (hu_of hr) (pdV (pv 18)) (pdIx r2IxT ix_tup (pdV (pv 19)) (pdC pe_int) (fun _ _ => rfl)) (pdV (pv 19)))))
              (psCons (psSet (i := 20) sc_law.nd rfl (Or.inl rfl) (pdDNew pe_dnewK))
              (psCons (psFor PassesOwn.never rfl (piList (pdV (pv 14))) (pgN (pg_name (i := 19) sc_law.nd rfl (Or.inl rfl)))
               (psCons (psDPut (i := 20) (hu_of hr) (pv 20) (pdIx r2IxT ix_tup (pdV (pv 19)) (pdC pe_int) (fun _ _ => rfl)) (pdIx r2IxT ix_tup (pdV (pv 19)) (pdC pe_int) (fun _ _ => rfl)))
                (psOne (psIf (PW.pt (pwOr (ptCmp r2Ge op_ge (pdIx r2IxT ix_tup (pdV (pv 19)) (pdC pe_int) (fun _ _ => rfl)) (pdV (pv 17)) (nomark _)) (pwOr (ptCmp r2Gt op_gt (pdIx r2IxT ix_tup (pdV (pv 19)) (pdC pe_int) (fun _ _ => rfl)) (pdIx r2IxT ix_tup (pdV (pv 19)) (pdC pe_int) (fun _ _ => rfl)) (nomark _)) (pwOr1 (ptCmp r2Lt op_lt (pdIx r2IxT ix_tup (pdV (pv 19)) (pdC pe_int) (fun _ _ => rfl)) (pdC pe_int) (nomark _)))))) (psOne (psRet (pdC pe_bl))) psNil))))
              (psCons (psLock (psForS PassesOwn.never rfl (piKeysH (pdV (pv 18))) (pgN (pg_name (i := 21) sc_law.nd rfl (Or.inl rfl)))
               (psOne (psIf (ptCmp r2Ne op_ne (pdIx r2IxT ix_tup (pdSG (pe_dget (hu_of hr) (pdV (pv 18)) (pdV (pv 21)) (fun _ _ => rfl))) (pdC pe_int) (fun _ _ => rfl)) (pdOp r2Add op_add (pdDGet2 (hu_of hr) (pv 20) (pdV (pv 21)) (pdC pe_int) ⟨rfl, rfl, rfl, rfl⟩) (pdCall (fun _ _ _ q => (L_goneU _ _ _ q).1) G_gone (hr.mono (by decide)) (by rfl) m_gone k_gone b_gone pass0 (paCons (pdV (pv 13)) (paCons (pdV (pv 21)) paNil)))) (nomark _)) (psOne (psRet (pdC pe_bl))) psNil))))
              (psCons (psIf (PW.pt (pwOr (ptCmp r2Ne op_ne (pdIx r2IxT ix_tup (pdV (pv 8)) (pdC pe_int) (fun _ _ => rfl)) (pdOp r2Add op_add (pdV (pv 15)) (pdCall (fun _ _ _ q => (L_goneU _ _ _ q).1) G_gone (hr.mono (by decide)) (by rfl) m_gone k_gone b_gone pass0 (paCons (pdV (pv 13)) (paCons (pdIx r2IxT ix_tup (pdV (pv 8)) (pdC pe_int) (fun _ _ => rfl)) paNil)))) (nomark _)) (pwOr1 (ptCmp r2Ne op_ne (pdLenD (i := 20) (pe_callB call_lenD (by rfl) T.b_len (by decide +kernel) (pa_cons (pv 20) pa_nil))) (pdB rsLen call_len_seq (by rfl) T.b_len (by decide +kernel) (paCons (pdV (pv 14)) paNil)) (nomark _))))) (psOne (psRet (pdC pe_bl))) psNil)
              (psCons (psFor PassesOwn.never rfl (piList (pdV (pv 13))) (pgN (pg_name (i := 22) sc_law.nd rfl (Or.inl rfl)))
               (psOne (psIf (PW.pt (pwAnd (ptCmp r2Eq op_eq (pdIx r2IxT ix_tup (pdV (pv 22)) (pdC pe_int) (fun _ _ => rfl)) (pdC pe_str) (nomark _)) (pwAnd1 (ptNot (ptVal (pdCall (fun _ _ _ q => (L_trade_right _ _ _ q).1) G_trade_right (hr.mono (by decide)) (by rfl) m_trade_right k_trade_right b_trade_right pass0 (paCons (pdV (pv 22)) (paCons (pdV (pv 18)) (paCons (pdV (pv 8)) (paCons (pdV (pv 9)) (paCons (pdV (pv 10)) paNil))))))))))) (psOne (psRet (pdC pe_bl))) psNil)))
              (psOne (psIf (PW.pt (pwOr (ptNot (ptVal (pdCall (fun _ _ _ q => (L_none_passed _ _ _ q).1) G_none_passed (hr.mono (by decide)) (by rfl) m_none_passed k_none_passed b_none_passed pass0 (paCons (pdV (pv 13)) (paCons (pdV (pv 14)) (paCons (pdV (pv 8)) paNil)))))) (pwOr1 (ptCmp r2Lt op_lt (pdV (pv 17)) (pdV (pv 6)) (nomark _))))) (psOne (psRet (pdC pe_bl))) psNil)))))))))))))))))))))))
          (pss_one (ps_ret pe_bl))), ?_⟩
    have hl' : ((ns.map V.int).length : Int) = (ns.length : Int) := by rw [List.length_map]
    refine ⟨_, rfl, _, _, rfl, .inl hS, _, _, rfl, _, _, rfl, _, rfl, ?lo, ?hi, ?_⟩
    case lo => rw [hl']; split <;> split <;> omega
    case hi => rw [hl']; split <;> split <;> omega
    rw [hl']
    refine for_range (lo := 0) (fun i σ H' => (∃ t1 t2 t3 t4 t5 t6 t7 t8 t9 t10 t11 t12 t13 t14 t15 t16 t17 t18 t19 t20 t21 t22, σ = [some (.ref a), t1, t2, t3, t4, t5, t6, t7, t8, t9, t10, t11, t12, t13, t14, t15, t16, t17, t18, t19, t20, t21, t22]) ∧ LamX.ExtN H H' ∧ LamX.Tabs Tabz.T H') ⟨⟨_, _, _, _, _, _, _, _, _, _, _, _, _, _, _, _, _, _, _, _, _, _, rfl⟩, LamX.ExtN.refl H, hT⟩ ?_ ?_
    case refine_2 =>
      rintro σ H1 ⟨_, x1, tb1⟩
      exact k H1
    rintro i σ H1 hi ⟨⟨t1, t2, t3, t4, t5, t6, t7, t8, t9, t10, t11, t12, t13, t14, t15, t16, t17, t18, t19, t20, t21, t22, rfl⟩, x1, tb1⟩
    have hi8 : (0 : Int) + (i : Int) < 64 := by
      have h3 := hi
      revert h3
      split <;> split <;> intro h3 <;> omega
    refine ⟨_, rfl, _, rfl, a, ns, _, rfl, extN_L x1 hS, hlen, by omega, hi8, fun p H2 np s2 u2 => ?_⟩
    have tb2 : LamX.Tabs Tabz.T H2 := tb1.ext s2
    have u3 := u2
    obtain ⟨_, _, _, hxp, _⟩ := u3
    refine ⟨{ H0 := H2, n0 := ((0 : Int), fun _ => none), B0 := fun _ => False, t := .ref p, u := .non, pins := [], Bs := fun b e => e.elim }, fun _ => none, ((0 : Int), fun _ => none), [.raw (.ref a), .un, .tape, .un, .un, .un, .un, .un, .un, .un, .un, .un, .un, .un, .un, .un, .un, .un, .un, .un, .un, .un, .un], { nx := fun ρ _ => ρ[0]? = some (.raw (.ref a)) ∧ ρ.length = 23, rt := fun _ _ => False }, ?env, ?data, ?link⟩
    case env =>
      refine ⟨.refl, ⟨⟨fun b e => by cases e; exact u2, fun a o e => by cases e⟩, tb2⟩, fun i a e => (by cases e), fun i a e => (by cases e), fun i j a e => (by cases e), fun i x e => ?_, rfl, fun q hq => (by cases hq), ⟨0, fun _ _ => rfl⟩, fun i a x e => (by cases e)⟩
      match i, e with
      | 0, e => cases e; exact rfl
      | 1, e => cases e; exact True.intro
      | 2, e => cases e; exact ⟨rfl, p, rfl⟩
      | i + 3, e =>
        have e' : (List.replicate 20 DV.un)[i]? = some x := e
        rw [List.getElem?_replicate] at e'
        split at e'
        · cases e'; exact True.intro
        · cases e'
    case link =>
      refine ⟨fun A n σ H' ρ h e => ?_, fun v r n H' h => h.elim, fun A n σ H' ρ h => h.elim, fun A n σ H' ρ h => h.elim⟩
      have hs := e.slot 0 _ h.1
      have hl : σ.length = 23 := by rw [← e.len]; exact h.2
      have hs' : σ[0]? = some (some (.ref a)) := hs
      refine ⟨?_, fun b o hb hn => ?_, e.g.2⟩
      · match σ, hl, hs' with
        | [x0, x1, x2, x3, x4, x5, x6, x7, x8, x9, x10, x11, x12, x13, x14, x15, x16, x17, x18, x19, x20, x21, x22], _, hs' =>
          cases hs'
          exact ⟨_, _, _, _, _, _, _, _, _, _, _, _, _, _, _, _, _, _, _, _, _, _, rfl⟩
      · have b2 : H2 b = some o := s2 b o (x1 b o hb hn)
        refine e.keep.k (b := b) (o := o) (fun z => ?_) hn b2
        have z' : V.ref p = V.ref b := z.elim id fun w => absurd rfl w
        cases z'
        rw [x1 p o hb hn] at np
        cases np
    case data =>
      have tk3 : ∀ ns : List Str, cutD (ns.map PyData.str) none (some 3) = (ns.take 3).map PyData.str := fun ns => cut_take3 ns 3 (by decide)
      repeat walk_at "d"
      refine ⟨cnd ⟨by decide, by walk_at "om"⟩, fun way w0 w1 => ?_⟩
      repeat walk_at "d"
      refine ⟨cnd ⟨by decide, by walk_at "om"⟩, fun r1 r1a r1b => ?_⟩
      repeat walk_at "d"
      refine ⟨cnd ⟨⟨by omega, by omega⟩, by walk_at "om"⟩, fun nms hnl hnk => ?_⟩
      repeat walk_at "d"
      refine ⟨cnd ⟨by decide, by walk_at "om"⟩, fun r2 r2a r2b => ?_⟩
      repeat walk_at "d"
      have ht3 : (nms.take 3).length ≤ nms.length ∧ (0 < nms.length → 0 < (nms.take 3).length) := by
        rw [List.length_take]
        omega
      refine ⟨nms.take 3, r2, way, ?_, cnd ⟨⟨r2a, by omega⟩, ⟨w0, w1⟩, ⟨by omega, by omega⟩, fun x hx => hnk x (List.mem_of_mem_take hx), by walk_at "om", by walk_at "om"⟩, fun rows num st n1 hc1 => ?_⟩
      · show [DV.tape, .d (.list (cutD (nms.map PyData.str) none (some 3))), _, _] = _
        rw [tk3]
        rfl
      obtain ⟨hrl, hrt, ⟨hnum0, hnum, hst0, hst⟩, hn1, hn2⟩ := hc1.get
      dsimp only at hn1 hn2
      have hrl2 : rows.length ≤ 14 := by omega
      have rok : ∀ r ∈ rows, RowOk r := fun r hr => (hrt.row r hr).ok
      have hphi : Phi rows ≤ 294 := by have := Phi21 (rs := rows) fun r hr => (hrt.row r hr).phi; omega
      have ndR := nums_nd hrt
      repeat walk_at "d"
      refine ⟨by decide, by decide, ?_⟩
      refine ⟨fun i ρ (m : Int × Sto) => (0 ≤ m.1 ∧ m.1 ≤ n1 + 100 * i) ∧ ∃ j7 j8 j9 j10 j11 j12 j13 j14 j15 j16 j17 j18 j19 j20 j21 j22 : DV, ρ = [.raw (.ref a), .un, .tape, .d (.int way), .d (.list (nms.map PyData.str)), .d (dRows rows), .d (.int st), j7, j8, j9, j10, j11, j12, j13, j14, j15, j16, j17, j18, j19, j20, j21, j22], ⟨⟨by walk_at "om", by walk_at "om"⟩, _, _, _, _, _, _, _, _, _, _, _, _, _, _, _, _, rfl⟩, ?_, ?_⟩
      · rintro i d ρ ⟨m, S0⟩ hd ⟨⟨hm2, hm3⟩, j7, j8, j9, j10, j11, j12, j13, j14, j15, j16, j17, j18, j19, j20, j21, j22, rfl⟩
        have hm2 : 0 ≤ m := hm2
        have hm3 : m ≤ n1 + 100 * i := hm3
        have hi : i < 3 := by
          have := (List.getElem?_eq_some_iff.mp hd).1
          rwa [List.length_map, List.length_range] at this
        have hd' : ((List.range 3).map fun i => PyData.int (i : Nat))[i]? = some d := hd
        rw [List.getElem?_map, List.getElem?_range hi] at hd'
        cases hd'
        repeat walk_at "d"
        refine ⟨cnd ⟨⟨w0, w1⟩, ⟨by omega, by omega⟩, hnk, by walk_at "om", by walk_at "om"⟩, fun c n2 hc2 => ?_⟩
        obtain ⟨hg, ⟨hcl0, hcl1⟩, hcs, hcw, ⟨hcn0, hcn1⟩, hcp, hn3, hn4⟩ := hc2.get
        have hn3 : m ≤ n2 := hn3
        have hn4 : n2 ≤ m + 40 := hn4
        repeat walk_at "d"
        refine ⟨cnd ⟨⟨w0, w1⟩, by walk_at "om"⟩, fun near cnear => ?_⟩
        repeat walk_at "d"
        refine ⟨cnd ⟨by decide, by walk_at "om"⟩, fun d1 d1a d1b => ?_⟩
        repeat walk_at "d"
        refine ⟨cnd ⟨by decide, by walk_at "om"⟩, fun d2 d2a d2b => ?_⟩
        obtain ⟨band, eband⟩ : ∃ band : Option Int, opIxL (.list [.none, .int d1]) (.int d2) = some (.d (datP band)) := by
          rcases ix2 (a := .none) (b := .int d1) d2a d2b with e | e
          · exact ⟨none, e⟩
          · exact ⟨some d1, e⟩
        repeat walk_at "d"
        refine ⟨_, eband, ?_⟩
        repeat walk_at "d"
        obtain ⟨word, eword⟩ : ∃ word : Str, opIxL (.list [.str "rank", .str "share"]) (.int ((i : Int) % 2)) = some (.d (.str word)) := by
          rcases ix2 (a := .str "rank") (b := .str "share") (w := (i : Int) % 2) (by omega) (by omega) with e | e
          · exact ⟨_, e⟩
          · exact ⟨_, e⟩
        refine ⟨_, eword, ?_⟩
        repeat walk_at "d"
        have hc0 : ∀ r ∈ rows, r.num ≠ c.num := fun r hr e => by
          have := (hrt.nums.2 r hr).2
          omega
        have mok0 : AOk 300 ⟨rows, [], c.left, st⟩ := ⟨rok, by show rows.length ≤ 300; omega, by show 0 ≤ c.left; omega, by show c.left < 2 ^ 64; omega, by show Phi rows ≤ 300; omega, by show 0 + 3 * Phi rows ≤ 4 * 300 + 3; omega, fun _ => by show 0 + 3 * Phi rows ≤ 3 * 300; omega⟩
        refine ⟨⟨rfl, rfl⟩, (plainOf_R (ds := [_, _, _, _, _, _]) rfl).1, rows, c, st, band, .int near, near, word, 300, rfl, fun _ => rfl, hg, by decide, mok0, fun kT fin eT => ?_⟩
        obtain ⟨okf, KK⟩ := meet_K hg hc0 kT mok0 (start_K (band := band) (a := near) ndR hrt.ranks.2) eT
        repeat walk_at "d"
        refine ⟨fun ρ (q : Int × Sto) => q.1 = n2 + 1 + 1 + 1 + 1 + 1 + 1 ∧ ∃ (fin : MSt × Bool) (t : Addr) (j19 j20 j21 j22 : DV), AOk 300 fin.1 ∧ K11 rows c c.left st band near fin.1 ∧ q.2 t = some (.dK []) ∧ ρ = [.raw (.ref a), .un, .tape, .d (.int way), .d (.list (nms.map PyData.str)), .d (dRows rows), .d (.int st), .d (.int (i : Nat)), .d c.dat, .d (.int near), .d (datP band), .d (.str word), .d (meetRes fin), .d (dEvts fin.1.evts), .d (dRows (rankM fin.1.rows)), .d (.int fin.1.left), .d (.bool fin.2), .d (.int fin.1.rank), .d (hnd t), j19, j20, j21, j22], ?_, ?_⟩
        · intro t ht
          repeat walk_at "d"
          exact ⟨rfl, fin, t, _, _, _, _, okf, KK, sset_eq, rfl⟩
        clear okf KK eT fin kT
        rintro ρ ⟨q1, S1⟩ ⟨eq1, fin, t, j19, j20, j21, j22, okf, KK, ht, rfl⟩
        have ht : S1 t = some (.dK []) := ht
        have eq1 : q1 = n2 + 1 + 1 + 1 + 1 + 1 + 1 := eq1
        have hside : ∀ r ∈ fin.1.rows, r.side = "buy" ∨ r.side = "sell" := fun r hr => (okf.rows r hr).2.2.2.2.2.2
        have pR := rank_of_perm hside
        have ndF : ((rankM fin.1.rows).map Row.num).Nodup := ((pR.map Row.num).nodup_iff).mpr KK.nd
        have hev := okf.ev
        have hln := okf.len
        have hrk : (rankM fin.1.rows).length ≤ 300 := by rw [pR.length_eq]; exact hln
        repeat walk_at "d"
        refine ⟨fun i' ρ (q : Int × Sto) => q.1 = q1 ∧ q.2 t = some (.dK (kvR (rows.take i'))) ∧ ∃ j19 : DV, ρ = [.raw (.ref a), .un, .tape, .d (.int way), .d (.list (nms.map PyData.str)), .d (dRows rows), .d (.int st), .d (.int (i : Nat)), .d c.dat, .d (.int near), .d (datP band), .d (.str word), .d (meetRes fin), .d (dEvts fin.1.evts), .d (dRows (rankM fin.1.rows)), .d (.int fin.1.left), .d (.bool fin.2), .d (.int fin.1.rank), .d (hnd t), j19, j20, j21, j22], ⟨rfl, ht, _, rfl⟩, ?_, ?_⟩
        · rintro i' d' ρ ⟨q2, S2⟩ hd2 ⟨e2, eS, j19, rfl⟩
          have e2 : q2 = q1 := e2
          have eS : S2 t = some (.dK (kvR (rows.take i'))) := eS
          subst e2
          obtain ⟨r, hr1, rfl⟩ := at_map hd2
          repeat walk_at "d"
          refine ⟨.inl r.num, rfl, ?_⟩
          repeat walk_at "d"
          refine ⟨_, eS, by unfold kvR; rw [List.length_map, List.length_take]; omega, ?_⟩
          repeat walk_at "d"
          exact ⟨rfl, by show sset S2 t _ t = _; rw [sset_eq, put_kvR ndR hr1], _, rfl⟩
        rintro ρ ⟨q2, S2⟩ ⟨e2, eS, j19, rfl⟩
        have e2 : q2 = q1 := e2
        have eS : S2 t = some (.dK (kvR (rows.take (rows.map Row.dat).length))) := eS
        subst e2
        rw [List.length_map, List.take_length] at eS
        repeat walk_at "d"
        refine ⟨fun i' ρ (q : Int × Sto) => q = (q2, S2) ∧ ∃ j19 : DV, ρ = [.raw (.ref a), .un, .tape, .d (.int way), .d (.list (nms.map PyData.str)), .d (dRows rows), .d (.int st), .d (.int (i : Nat)), .d c.dat, .d (.int near), .d (datP band), .d (.str word), .d (meetRes fin), .d (dEvts fin.1.evts), .d (dRows (rankM fin.1.rows)), .d (.int fin.1.left), .d (.bool fin.2), .d (.int fin.1.rank), .d (hnd t), j19, .dic (kvL ((rankM fin.1.rows).take i')), j21, j22], ⟨rfl, _, rfl⟩, ?_, ?_⟩
        · rintro i' d' ρ _ hd2 ⟨rfl, j19, rfl⟩
          obtain ⟨r, hr1, rfl⟩ := at_map hd2
          have hr2 : r ∈ fin.1.rows := pR.mem_iff.mp (List.mem_of_getElem? hr1)
          have okr := okf.rows r hr2
          have rkr := KK.rk.2 r hr2
          obtain ⟨o1, o2, _⟩ := okr
          repeat walk_at "d"
          refine ⟨.inl r.num, rfl, ?_⟩
          repeat walk_at "d"
          refine ⟨by unfold kvL; rw [List.length_map, List.length_take]; omega, ?_⟩
          repeat walk_at "d"
          refine ite2 (fun q => absurd (of_decide_eq_true q) (by omega)) (fun _ => ?_)
          repeat walk_at "d"
          refine ite2 (fun q => absurd (of_decide_eq_true q) (by omega)) (fun _ => ?_)
          repeat walk_at "d"
          refine ite2 (fun q => absurd (of_decide_eq_true q) (by omega)) (fun _ => ?_)
          repeat walk_at "d"
          exact ⟨rfl, _, by rw [← put_kvL ndF hr1]; rfl⟩
        rintro ρ _ ⟨rfl, j19, rfl⟩
        rw [List.length_map, List.take_length]
        repeat walk_at "d"
        refine ⟨t, _, eS, fun od ws => ?_⟩
        repeat walk_at "d"
        refine ⟨t, od, ws, _, rfl, sset_eq, ?_⟩
        refine ⟨fun i' ρ (q : Int × Sto) => (q.1 = q2 ∧ q.2 t = some (.dF od ws (kvR rows))) ∧ ∃ j21 : DV, ρ = [.raw (.ref a), .un, .tape, .d (.int way), .d (.list (nms.map PyData.str)), .d (dRows rows), .d (.int st), .d (.int (i : Nat)), .d c.dat, .d (.int near), .d (datP band), .d (.str word), .d (meetRes fin), .d (dEvts fin.1.evts), .d (dRows (rankM fin.1.rows)), .d (.int fin.1.left), .d (.bool fin.2), .d (.int fin.1.rank), .d (hnd t), j19, .dic (kvL (rankM fin.1.rows)), j21, j22], ⟨⟨rfl, sset_eq⟩, _, rfl⟩, fun i' ρ n h => h.1.2, ?_, ?_⟩
        · rintro i' d' ρ ⟨q3, S3⟩ hd3 ⟨⟨e3, eF⟩, j21, rfl⟩
          have e3 : q3 = q2 := e3
          have eF : S3 t = some (.dF od ws (kvR rows)) := eF
          obtain ⟨r, hr, rfl⟩ := keys_kvR hd3
          have hbal := KK.bal r.num (hc0 r hr)
          rw [left_mem ndR hr, ← left_perm r.num pR] at hbal
          repeat walk_at "d"
          refine ⟨.inl r.num, rfl, _, dkvF_of eF, _, val_kvR ndR hr, ?_⟩
          repeat walk_at "d"
          refine ⟨.inl r.num, rfl, ?_⟩
          repeat walk_at "d"
          rw [val_kvL ndF]
          repeat walk_at "d"
          refine ⟨by omega, ?_⟩
          repeat walk_at "d"
          refine ite2 (fun q => ?_) (fun _ => ?_)
          · have q : (!decide (r.left = leftOf r.num (rankM fin.1.rows) + goneOf r.num fin.1.evts)) = true := q
            rw [decide_eq_true hbal] at q
            cases q
          repeat walk_at "d"
          exact ⟨⟨e3, eF⟩, _, rfl⟩
        rintro ρ ⟨q3, S3⟩ ⟨⟨e3, eF⟩, j21, rfl⟩
        have e3 : q3 = q2 := e3
        have eF : S3 t = some (.dF od ws (kvR rows)) := eF
        subst e3
        refine ⟨eF, ?_⟩
        have eS3 : sset S3 t (.dK (kvR rows)) t = some (.dK (kvR rows)) := sset_eq
        generalize sset S3 t (.dK (kvR rows)) = S4 at eS3
        repeat walk_at "d"
        refine ⟨by omega, ?_⟩
        repeat walk_at "d"
        have hown := KK.own
        refine ite2 (fun q => ?_) (fun _ => ?_)
        · have q : (!decide (c.left = fin.1.left + goneOf c.num fin.1.evts)) = true := q
          rw [decide_eq_true hown] at q
          cases q
        repeat walk_at "d"
        refine ite2 (fun q => ?_) (fun _ => ?_)
        · have q : (!decide (((kvL (rankM fin.1.rows)).length : Int) = (((rankM fin.1.rows).map Row.dat).length : Int))) = true := q
          rw [decide_eq_true (by unfold kvL; rw [List.length_map, List.length_map])] at q
          cases q
        repeat walk_at "d"
        refine ⟨fun i' ρ (q : Int × Sto) => (q.1 = q3 ∧ q.2 t = some (.dK (kvR rows))) ∧ ∃ j22 : DV, ρ = [.raw (.ref a), .un, .tape, .d (.int way), .d (.list (nms.map PyData.str)), .d (dRows rows), .d (.int st), .d (.int (i : Nat)), .d c.dat, .d (.int near), .d (datP band), .d (.str word), .d (meetRes fin), .d (dEvts fin.1.evts), .d (dRows (rankM fin.1.rows)), .d (.int fin.1.left), .d (.bool fin.2), .d (.int fin.1.rank), .d (hnd t), j19, .dic (kvL (rankM fin.1.rows)), j21, j22], ⟨⟨rfl, eS3⟩, _, rfl⟩, ?_, ?_⟩
        · rintro i' d' ρ ⟨q5, S5⟩ hd5 ⟨⟨e5, eS5⟩, j22, rfl⟩
          have e5 : q5 = q3 := e5
          have eS5 : S5 t = some (.dK (kvR rows)) := eS5
          obtain ⟨e, he1, rfl⟩ := at_map hd5
          have he2 := List.mem_of_getElem? he1
          by_cases hp : ∃ x, priceE e = some x
          · obtain ⟨r0, h0, x, rfl, hw, hsd, hl, hf, hx⟩ := KK.tr e he2 hp
            obtain ⟨b, s, et⟩ := trade_shape c r0 x
            rw [et]
            repeat walk_at "d"
            refine ⟨r0, x, t, kvR rows, c, near, band, by rw [et]; rfl, dkv_of eS5, val_kvR ndR h0, hcs, hw, hsd, hl, hf, hx, ?_⟩
            repeat walk_at "d"
            exact ⟨⟨e5, eS5⟩, _, rfl⟩
          · cases e with
            | trade b s p x => exact absurd ⟨p, rfl⟩ hp
            | shown m n =>
              repeat walk_at "d"
              exact ⟨⟨e5, eS5⟩, _, rfl⟩
            | off m x =>
              repeat walk_at "d"
              exact ⟨⟨e5, eS5⟩, _, rfl⟩
            | less b s x =>
              repeat walk_at "d"
              exact ⟨⟨e5, eS5⟩, _, rfl⟩
        rintro ρ ⟨q5, S5⟩ ⟨⟨e5, eS5⟩, j22, rfl⟩
        have e5 : q5 = q3 := e5
        repeat walk_at "d"
        have hprice : ∀ r ∈ rankM fin.1.rows, 1 ≤ r.price ∧ r.price ≤ 10 ^ 6 := fun r hr => by
          obtain ⟨r0, h0, s0⟩ := KK.src r (pR.mem_iff.mp hr)
          rw [← s0.2.2.2]
          exact (hrt.row r0 h0).pr
        have hlev : ∀ p ∈ levelsOf fin.1.evts, 1 ≤ p ∧ p ≤ 10 ^ 6 := fun p hp => by
          obtain ⟨e, he, ep⟩ := List.mem_filterMap.mp hp
          obtain ⟨r0, h0, x, rfl, _⟩ := KK.tr e he ⟨p, ep⟩
          rw [price_trade] at ep
          cases ep
          exact (hrt.row r0 h0).pr
        refine ⟨⟨by omega, by omega⟩, hcs, KK.lev, fun p hp r hr hs => KK.last p hp r (pR.mem_iff.mp hr) (by
          rcases hside r (pR.mem_iff.mp hr) with e | e <;> rcases hcs with e' | e' <;> rw [e, e'] at hs ⊢
          · exact absurd rfl hs
          · decide +kernel
          · decide +kernel
          · exact absurd rfl hs), ⟨hlev, hprice⟩, ?_⟩
        repeat walk_at "d"
        have hrk0 := KK.rk.1
        refine ite2 (fun q => absurd (of_decide_eq_true q) (by omega)) (fun _ => ?_)
        repeat walk_at "d"
        exact ⟨⟨by walk_at "om", by walk_at "om"⟩, _, _, _, _, _, _, _, _, _, _, _, _, _, _, _, _, rfl⟩
      · rintro ρ m ⟨⟨hm0, hm1⟩, j7, j8, j9, j10, j11, j12, j13, j14, j15, j16, j17, j18, j19, j20, j21, j22, rfl⟩
        exact ⟨rfl, rfl⟩
end

end
/-! ### what the top has written, the end -/
abbrev tz (P1 P2 : Addr) : Tabz := ⟨[(P1, ("ranked.<locals>." : Str) ++ "<lambda>"), (P2, ("rows_met.<locals>." : Str) ++ "<lambda>")]⟩
theorem all_mk {l : PySem.W.OpenLaw} {w : World} {K : PySem.W.Frag} {h : Heap} {mg : Str → Option Value} {fa cR PR cM PM DL f1 f2 f3 f4 f5 f6 f7 f8 f9 f10 f11 f12 f13 f14 f15 f16 f17 f18 f19 f20 f21 f22 f23 f24 : Addr} (X : K.In h) (G : h.Ns mainGlobals mg) (hfa : mg "law" = some (.ref fa))
    {od1 an1 od2 an2 od3 an3 od4 an4 od5 an5 od6 an6 od7 an7 od8 an8 od9 an9 od10 an10 od11 an11 od12 an12 od13 an13 od14 an14 od15 an15 od16 an16 od17 an17 od18 an18 od19 an19 od20 an20 od21 an21 od22 an22 od23 an23 od24 an24 : Option Addr} {sl1 sl2 sl3 sl4 sl5 sl6 sl7 sl8 sl9 sl10 sl11 sl12 sl13 sl14 sl15 sl16 sl17 sl18 sl19 sl20 sl21 sl22 sl23 sl24 : Array (Option Value)} {oc1 kV1 dc1 pm1 cd1 ct1 oc2 kV2 dc2 pm2 cd2 ct2 oc3 kV3 dc3 pm3 cd3 ct3 oc4 kV4 dc4 pm4 cd4 ct4 oc5 kV5 dc5 pm5 cd5 ct5 oc6 kV6 dc6 pm6 cd6 ct6 oc7 kV7 dc7 pm7 cd7 ct7 oc8 kV8 dc8 pm8 cd8 ct8 oc9 kV9 dc9 pm9 cd9 ct9 oc10 kV10 dc10 pm10 cd10 ct10 oc11 kV11 dc11 pm11 cd11 ct11 oc12 kV12 dc12 pm12 ct12 oc13 kV13 dc13 pm13 ct13 oc14 dc14 pm14 cd14 ct14 oc15 kV15 dc15 pm15 cd15 ct15 oc16 kV16 dc16 pm16 cd16 ct16 oc17 kV17 dc17 pm17 cd17 ct17 oc18 kV18 dc18 pm18 cd18 ct18 oc19 kV19 dc19 pm19 cd19 ct19 oc20 kV20 dc20 pm20 cd20 ct20 oc21 kV21 dc21 pm21 cd21 ct21 oc22 kV22 dc22 pm22 cd22 ct22 oc23 kV23 dc23 pm23 cd23 ct23 oc24 kV24 dc24 pm24 cd24 ct24 : Value}
    (a1 : PySem.W.nsIn K mainGlobals "lets" = some (some (.ref f1))) (l1 : K.lookup f1 = some ⟨oc1, od1, .func (PySem.W.fnOf "lets" "lets" (defArgs s_lets) (defBody s_lets) (defScope s_lets) .none kV1 dc1 pm1 an1 cd1 ct1), sl1⟩) (c1 : PySem.W.codeIn K cd1 "lets" = true) (k1 : PySem.W.keepIn K (.ref f1) = true)
    (a2 : PySem.W.nsIn K mainGlobals "against" = some (some (.ref f2))) (l2 : K.lookup f2 = some ⟨oc2, od2, .func (PySem.W.fnOf "against" "against" (defArgs s_against) (defBody s_against) (defScope s_against) .none kV2 dc2 pm2 an2 cd2 ct2), sl2⟩) (c2 : PySem.W.codeIn K cd2 "against" = true) (k2 : PySem.W.keepIn K (.ref f2) = true)
    (a3 : PySem.W.nsIn K mainGlobals "too_far" = some (some (.ref f3))) (l3 : K.lookup f3 = some ⟨oc3, od3, .func (PySem.W.fnOf "too_far" "too_far" (defArgs s_too_far) (defBody s_too_far) (defScope s_too_far) .none kV3 dc3 pm3 an3 cd3 ct3), sl3⟩) (c3 : PySem.W.codeIn K cd3 "too_far" = true) (k3 : PySem.W.keepIn K (.ref f3) = true)
    (a4 : PySem.W.nsIn K mainGlobals "part_seen" = some (some (.ref f4))) (l4 : K.lookup f4 = some ⟨oc4, od4, .func (PySem.W.fnOf "part_seen" "part_seen" (defArgs s_part_seen) (defBody s_part_seen) (defScope s_part_seen) .none kV4 dc4 pm4 an4 cd4 ct4), sl4⟩) (c4 : PySem.W.codeIn K cd4 "part_seen" = true) (k4 : PySem.W.keepIn K (.ref f4) = true)
    (a5 : PySem.W.nsIn K mainGlobals "hidden_first" = some (some (.ref f5))) (l5 : K.lookup f5 = some ⟨oc5, od5, .func (PySem.W.fnOf "hidden_first" "hidden_first" (defArgs s_hidden_first) (defBody s_hidden_first) (defScope s_hidden_first) .none kV5 dc5 pm5 an5 cd5 ct5), sl5⟩) (c5 : PySem.W.codeIn K cd5 "hidden_first" = true) (k5 : PySem.W.keepIn K (.ref f5) = true)
    (a6 : PySem.W.nsIn K mainGlobals "seen_first" = some (some (.ref f6))) (l6 : K.lookup f6 = some ⟨oc6, od6, .func (PySem.W.fnOf "seen_first" "seen_first" (defArgs s_seen_first) (defBody s_seen_first) (defScope s_seen_first) .none kV6 dc6 pm6 an6 cd6 ct6), sl6⟩) (c6 : PySem.W.codeIn K cd6 "seen_first" = true) (k6 : PySem.W.keepIn K (.ref f6) = true)
    (a7 : PySem.W.nsIn K mainGlobals "shown_anew" = some (some (.ref f7))) (l7 : K.lookup f7 = some ⟨oc7, od7, .func (PySem.W.fnOf "shown_anew" "shown_anew" (defArgs s_shown_anew) (defBody s_shown_anew) (defScope s_shown_anew) .none kV7 dc7 pm7 an7 cd7 ct7), sl7⟩) (c7 : PySem.W.codeIn K cd7 "shown_anew" = true) (k7 : PySem.W.keepIn K (.ref f7) = true)
    (a8 : PySem.W.nsIn K mainGlobals "shares" = some (some (.ref f8))) (l8 : K.lookup f8 = some ⟨oc8, od8, .func (PySem.W.fnOf "shares" "shares" (defArgs s_shares) (defBody s_shares) (defScope s_shares) .none kV8 dc8 pm8 an8 cd8 ct8), sl8⟩) (c8 : PySem.W.codeIn K cd8 "shares" = true) (k8 : PySem.W.keepIn K (.ref f8) = true)
    (a9 : PySem.W.nsIn K mainGlobals "step_with_own" = some (some (.ref f9))) (l9 : K.lookup f9 = some ⟨oc9, od9, .func (PySem.W.fnOf "step_with_own" "step_with_own" (defArgs s_step_with_own) (defBody s_step_with_own) (defScope s_step_with_own) .none kV9 dc9 pm9 an9 cd9 ct9), sl9⟩) (c9 : PySem.W.codeIn K cd9 "step_with_own" = true) (k9 : PySem.W.keepIn K (.ref f9) = true)
    (a10 : PySem.W.nsIn K mainGlobals "step_of_trades" = some (some (.ref f10))) (l10 : K.lookup f10 = some ⟨oc10, od10, .func (PySem.W.fnOf "step_of_trades" "step_of_trades" (defArgs s_step_of_trades) (defBody s_step_of_trades) (defScope s_step_of_trades) .none kV10 dc10 pm10 an10 cd10 ct10), sl10⟩) (c10 : PySem.W.codeIn K cd10 "step_of_trades" = true) (k10 : PySem.W.keepIn K (.ref f10) = true)
    (a11 : PySem.W.nsIn K mainGlobals "step" = some (some (.ref f11))) (l11 : K.lookup f11 = some ⟨oc11, od11, .func (PySem.W.fnOf "step" "step" (defArgs s_step) (defBody s_step) (defScope s_step) .none kV11 dc11 pm11 an11 cd11 ct11), sl11⟩) (c11 : PySem.W.codeIn K cd11 "step" = true) (k11 : PySem.W.keepIn K (.ref f11) = true)
    (a12 : PySem.W.nsIn K mainGlobals "rows_met" = some (some (.ref f12))) (l12 : K.lookup f12 = some ⟨oc12, od12, .func (PySem.W.fnOf "rows_met" "rows_met" (defArgs s_rows_met) (defBody s_rows_met) (defScope s_rows_met) .none kV12 dc12 pm12 an12 (.ref cM) ct12), sl12⟩) (c12 : PySem.W.codeIn K (.ref cM) "rows_met" = true) (k12 : PySem.W.keepIn K (.ref f12) = true)
    (a13 : PySem.W.nsIn K mainGlobals "ranked" = some (some (.ref f13))) (l13 : K.lookup f13 = some ⟨oc13, od13, .func (PySem.W.fnOf "ranked" "ranked" (defArgs s_ranked) (defBody s_ranked) (defScope s_ranked) .none kV13 dc13 pm13 an13 (.ref cR) ct13), sl13⟩) (c13 : PySem.W.codeIn K (.ref cR) "ranked" = true) (k13 : PySem.W.keepIn K (.ref f13) = true)
    (a14 : PySem.W.nsIn K mainGlobals "plain_meet" = some (some (.ref f14))) (l14 : K.lookup f14 = some ⟨oc14, od14, .func (PySem.W.fnOf "plain_meet" "plain_meet" (defArgs s_plain_meet) (defBody s_plain_meet) (defScope s_plain_meet) .none (.ref DL) dc14 pm14 an14 cd14 ct14), sl14⟩) (c14 : PySem.W.codeIn K cd14 "plain_meet" = true) (k14 : PySem.W.keepIn K (.ref f14) = true)
    (a15 : PySem.W.nsIn K mainGlobals "_law_purse" = some (some (.ref f15))) (l15 : K.lookup f15 = some ⟨oc15, od15, .func (PySem.W.fnOf "_law_purse" "_law_purse" (defArgs s_law_purse) (defBody s_law_purse) (defScope s_law_purse) .none kV15 dc15 pm15 an15 cd15 ct15), sl15⟩) (c15 : PySem.W.codeIn K cd15 "_law_purse" = true) (k15 : PySem.W.keepIn K (.ref f15) = true)
    (a16 : PySem.W.nsIn K mainGlobals "_law_coin" = some (some (.ref f16))) (l16 : K.lookup f16 = some ⟨oc16, od16, .func (PySem.W.fnOf "_law_coin" "_law_coin" (defArgs s_law_coin) (defBody s_law_coin) (defScope s_law_coin) .none kV16 dc16 pm16 an16 cd16 ct16), sl16⟩) (c16 : PySem.W.codeIn K cd16 "_law_coin" = true) (k16 : PySem.W.keepIn K (.ref f16) = true)
    (a17 : PySem.W.nsIn K mainGlobals "_law_names" = some (some (.ref f17))) (l17 : K.lookup f17 = some ⟨oc17, od17, .func (PySem.W.fnOf "_law_names" "_law_names" (defArgs s_law_names) (defBody s_law_names) (defScope s_law_names) .none kV17 dc17 pm17 an17 cd17 ct17), sl17⟩) (c17 : PySem.W.codeIn K cd17 "_law_names" = true) (k17 : PySem.W.keepIn K (.ref f17) = true)
    (a18 : PySem.W.nsIn K mainGlobals "_law_level" = some (some (.ref f18))) (l18 : K.lookup f18 = some ⟨oc18, od18, .func (PySem.W.fnOf "_law_level" "_law_level" (defArgs s_law_level) (defBody s_law_level) (defScope s_law_level) .none kV18 dc18 pm18 an18 cd18 ct18), sl18⟩) (c18 : PySem.W.codeIn K cd18 "_law_level" = true) (k18 : PySem.W.keepIn K (.ref f18) = true)
    (a19 : PySem.W.nsIn K mainGlobals "_law_rows" = some (some (.ref f19))) (l19 : K.lookup f19 = some ⟨oc19, od19, .func (PySem.W.fnOf "_law_rows" "_law_rows" (defArgs s_law_rows) (defBody s_law_rows) (defScope s_law_rows) .none kV19 dc19 pm19 an19 cd19 ct19), sl19⟩) (c19 : PySem.W.codeIn K cd19 "_law_rows" = true) (k19 : PySem.W.keepIn K (.ref f19) = true)
    (a20 : PySem.W.nsIn K mainGlobals "_law_coming" = some (some (.ref f20))) (l20 : K.lookup f20 = some ⟨oc20, od20, .func (PySem.W.fnOf "_law_coming" "_law_coming" (defArgs s_law_coming) (defBody s_law_coming) (defScope s_law_coming) .none kV20 dc20 pm20 an20 cd20 ct20), sl20⟩) (c20 : PySem.W.codeIn K cd20 "_law_coming" = true) (k20 : PySem.W.keepIn K (.ref f20) = true)
    (a21 : PySem.W.nsIn K mainGlobals "_law_gone" = some (some (.ref f21))) (l21 : K.lookup f21 = some ⟨oc21, od21, .func (PySem.W.fnOf "_law_gone" "_law_gone" (defArgs s_law_gone) (defBody s_law_gone) (defScope s_law_gone) .none kV21 dc21 pm21 an21 cd21 ct21), sl21⟩) (c21 : PySem.W.codeIn K cd21 "_law_gone" = true) (k21 : PySem.W.keepIn K (.ref f21) = true)
    (a22 : PySem.W.nsIn K mainGlobals "_law_trade_right" = some (some (.ref f22))) (l22 : K.lookup f22 = some ⟨oc22, od22, .func (PySem.W.fnOf "_law_trade_right" "_law_trade_right" (defArgs s_law_trade_right) (defBody s_law_trade_right) (defScope s_law_trade_right) .none kV22 dc22 pm22 an22 cd22 ct22), sl22⟩) (c22 : PySem.W.codeIn K cd22 "_law_trade_right" = true) (k22 : PySem.W.keepIn K (.ref f22) = true)
    (a23 : PySem.W.nsIn K mainGlobals "_law_none_passed" = some (some (.ref f23))) (l23 : K.lookup f23 = some ⟨oc23, od23, .func (PySem.W.fnOf "_law_none_passed" "_law_none_passed" (defArgs s_law_none_passed) (defBody s_law_none_passed) (defScope s_law_none_passed) .none kV23 dc23 pm23 an23 cd23 ct23), sl23⟩) (c23 : PySem.W.codeIn K cd23 "_law_none_passed" = true) (k23 : PySem.W.keepIn K (.ref f23) = true)
    (a24 : PySem.W.nsIn K mainGlobals "law" = some (some (.ref f24))) (l24 : K.lookup f24 = some ⟨oc24, od24, .func (PySem.W.fnOf "law" "law" (defArgs s_law) (defBody s_law) (defScope s_law) .none kV24 dc24 pm24 an24 cd24 ct24), sl24⟩) (c24 : PySem.W.codeIn K cd24 "law" = true) (k24 : PySem.W.keepIn K (.ref f24) = true)
    (z0 : PySem.W.nsIn K mainGlobals "len" = some none)
    (z1 : PySem.W.nsIn K mainGlobals "max" = some none)
    (z2 : PySem.W.nsIn K mainGlobals "min" = some none)
    (z3 : PySem.W.nsIn K mainGlobals "range" = some none)
    (z4 : PySem.W.nsIn K mainGlobals "bool" = some none)
    (z5 : PySem.W.nsIn K mainGlobals "isinstance" = some none)
    (z6 : PySem.W.nsIn K mainGlobals "int" = some none)
    (z7 : PySem.W.nsIn K mainGlobals "all" = some none)
    (z8 : PySem.W.nsIn K mainGlobals "list" = some none)
    (z9 : PySem.W.nsIn K mainGlobals "tuple" = some none)
    (z10 : PySem.W.nsIn K mainGlobals "zip" = some none)
    (z11 : PySem.W.nsIn K mainGlobals "sorted" = some none)
    (z12 : PySem.W.nsIn K mainGlobals "sum" = some none)
    (z13 : PySem.W.nsIn K mainGlobals "abs" = some none)
    (z14 : PySem.W.nsIn K mainGlobals "enumerate" = some none)
    (z15 : PySem.W.nsIn K mainGlobals "set" = some none)
    {t0 : Tok} (gl_0 : PySem.W.nsIn K mainGlobals "BUY" = some (some (.str "buy" t0)))
    {t1 : Tok} (gl_1 : PySem.W.nsIn K mainGlobals "SELL" = some (some (.str "sell" t1)))
    {t2 : Tok} (gl_2 : PySem.W.nsIn K mainGlobals "RANK" = some (some (.str "rank" t2)))
    {t3 : Tok} (gl_3 : PySem.W.nsIn K mainGlobals "SHARE" = some (some (.str "share" t3)))
    {t4 : Tok} (gl_4 : PySem.W.nsIn K mainGlobals "OLD" = some (some (.str "old" t4)))
    {t5 : Tok} (gl_5 : PySem.W.nsIn K mainGlobals "NEW" = some (some (.str "new" t5)))
    {t6 : Tok} (gl_6 : PySem.W.nsIn K mainGlobals "BOTH" = some (some (.str "both" t6)))
    {t7 : Tok} (gl_7 : PySem.W.nsIn K mainGlobals "LESS" = some (some (.str "less" t7)))
    {ocR ocM : Value} {odR odM : Option Addr} {vsR vsM : Array Value} {slR slM : Array (Option Value)} (lcR : K.lookup cR = some ⟨ocR, odR, .fields vsR, slR⟩) (vR : (vsR[11]? : Option Value) = some (.ref PR)) (nR : K.lookup PR = none)
    (lcM : K.lookup cM = some ⟨ocM, odM, .fields vsM, slM⟩) (vM : (vsM[11]? : Option Value) = some (.ref PM)) (nM : K.lookup PM = none) (ne : PR ≠ PM)
    {tR : Tok} (dB : PySem.W.nsIn K DL "band" = some (some .none)) (dA : PySem.W.nsIn K DL "anchor" = some (some .none)) (dR : PySem.W.nsIn K DL "rule" = some (some (.str "rank" tR)))
    : ∃ (c1 P1 c2 P2 : Addr) (fd : FuncData), PySem.W.tabIn K "ranked" = some (c1, P1) ∧ PySem.W.tabIn K "rows_met" = some (c2, P2) ∧ K.lookup P1 = none ∧ K.lookup P2 = none ∧ (∀ (s : Shared) (v : Value), BindsTo s fd ⟨[v], []⟩ [("script", v)]) ∧
      ∀ base : Heap, K.In base → base.Ns mainGlobals mg → LamX.TabB base mg c1 P1 → LamX.TabB base mg c2 P2 → FnOk l.prog w K mg base CX0 9 fa fd ["script"] (@spLaw (tz P1 P2) K) := by
  have tb1 : PySem.W.tabIn K "ranked" = some (cR, PR) := by
    unfold PySem.W.tabIn
    rw [a13]
    simp only
    rw [l13]
    simp only [PySem.W.fnOf]
    rw [lcR]
    simp only
    rw [vR]
  have tb2 : PySem.W.tabIn K "rows_met" = some (cM, PM) := by
    unfold PySem.W.tabIn
    rw [a12]
    simp only
    rw [l12]
    simp only [PySem.W.fnOf]
    rw [lcM]
    simp only
    rw [vM]
  letI : Tabz := tz PR PM
  have mR : (PR, ("ranked.<locals>." : Str) ++ "<lambda>") ∈ Tabz.T := List.mem_cons_self
  have mM : (PM, ("rows_met.<locals>." : Str) ++ "<lambda>") ∈ Tabz.T := List.mem_cons_of_mem _ List.mem_cons_self
  have uR : ∀ p ∈ Tabz.T, p.1 = PR → p.2 = ("ranked.<locals>." : Str) ++ "<lambda>" := fun p hp e => by
    rcases List.mem_cons.mp hp with q | hp
    · rw [q]
    · rw [List.mem_singleton.mp hp] at e
      exact absurd e.symm ne
  have uM : ∀ p ∈ Tabz.T, p.1 = PM → p.2 = ("rows_met.<locals>." : Str) ++ "<lambda>" := fun p hp e => by
    rcases List.mem_cons.mp hp with q | hp
    · rw [q] at e
      exact absurd e ne
    · rw [List.mem_singleton.mp hp]
  have e := hfa.symm.trans (PySem.W.mg_of X G a24)
  cases e
  have T : Txt mg := ⟨PySem.W.mg_none_of X G z0, PySem.W.mg_none_of X G z1, PySem.W.mg_none_of X G z2, PySem.W.mg_none_of X G z3, PySem.W.mg_none_of X G z4, PySem.W.mg_none_of X G z5, PySem.W.mg_none_of X G z6, PySem.W.mg_none_of X G z7, PySem.W.mg_none_of X G z8, PySem.W.mg_none_of X G z9, PySem.W.mg_none_of X G z10, PySem.W.mg_none_of X G z11, PySem.W.mg_none_of X G z12, PySem.W.mg_none_of X G z13, PySem.W.mg_none_of X G z14, PySem.W.mg_none_of X G z15, ⟨_, PySem.W.mg_of X G gl_0⟩, ⟨_, PySem.W.mg_of X G gl_1⟩, ⟨_, PySem.W.mg_of X G gl_2⟩, ⟨_, PySem.W.mg_of X G gl_3⟩, ⟨_, PySem.W.mg_of X G gl_4⟩, ⟨_, PySem.W.mg_of X G gl_5⟩, ⟨_, PySem.W.mg_of X G gl_6⟩, ⟨_, PySem.W.mg_of X G gl_7⟩⟩
  have F1 := fun_mk (st := s_lets) l1 c1 k1
  have b1 := F1.binds (ps := ["price", "side", "other"]) fun _ _ _ _ _ _ us hl => match us, hl with | [_, _, _], _ => rfl
  have F2 := fun_mk (st := s_against) l2 c2 k2
  have b2 := F2.binds (ps := ["side"]) fun _ _ _ _ _ _ us hl => match us, hl with | [_], _ => rfl
  have F3 := fun_mk (st := s_too_far) l3 c3 k3
  have b3 := F3.binds (ps := ["price", "band", "anchor"]) fun _ _ _ _ _ _ us hl => match us, hl with | [_, _, _], _ => rfl
  have F4 := fun_mk (st := s_part_seen) l4 c4 k4
  have b4 := F4.binds (ps := ["shown", "left"]) fun _ _ _ _ _ _ us hl => match us, hl with | [_, _], _ => rfl
  have F5 := fun_mk (st := s_hidden_first) l5 c5 k5
  have b5 := F5.binds (ps := ["row", "amount"]) fun _ _ _ _ _ _ us hl => match us, hl with | [_, _], _ => rfl
  have F6 := fun_mk (st := s_seen_first) l6 c6 k6
  have b6 := F6.binds (ps := ["row", "amount"]) fun _ _ _ _ _ _ us hl => match us, hl with | [_, _], _ => rfl
  have F7 := fun_mk (st := s_shown_anew) l7 c7 k7
  have b7 := F7.binds (ps := ["rows", "rank"]) fun _ _ _ _ _ _ us hl => match us, hl with | [_, _], _ => rfl
  have F8 := fun_mk (st := s_shares) l8 c8 k8
  have b8 := F8.binds (ps := ["left", "seen"]) fun _ _ _ _ _ _ us hl => match us, hl with | [_, _], _ => rfl
  have F9 := fun_mk (st := s_step_with_own) l9 c9 k9
  have b9 := F9.binds (ps := ["row", "coming", "left", "rank"]) fun _ _ _ _ _ _ us hl => match us, hl with | [_, _, _, _], _ => rfl
  have F10 := fun_mk (st := s_step_of_trades) l10 c10 k10
  have b10 := F10.binds (ps := ["met", "coming", "left", "rank"]) fun _ _ _ _ _ _ us hl => match us, hl with | [_, _, _, _], _ => rfl
  have F11 := fun_mk (st := s_step) l11 c11 k11
  have b11 := F11.binds (ps := ["met", "coming", "left", "rank"]) fun _ _ _ _ _ _ us hl => match us, hl with | [_, _, _, _], _ => rfl
  have F12 := fun_mk (st := s_rows_met) l12 c12 k12
  have b12 := F12.binds (ps := ["rows", "side", "rule"]) fun _ _ _ _ _ _ us hl => match us, hl with | [_, _, _], _ => rfl
  have F13 := fun_mk (st := s_ranked) l13 c13 k13
  have b13 := F13.binds (ps := ["rows"]) fun _ _ _ _ _ _ us hl => match us, hl with | [_], _ => rfl
  have F14 := fun_mk (st := s_plain_meet) l14 c14 k14
  have F15 := fun_mk (st := s_law_purse) l15 c15 k15
  have b15 := F15.binds (ps := ["script", "k"]) fun _ _ _ _ _ _ us hl => match us, hl with | [_, _], _ => rfl
  have F16 := fun_mk (st := s_law_coin) l16 c16 k16
  have b16 := F16.binds (ps := ["purse", "many"]) fun _ _ _ _ _ _ us hl => match us, hl with | [_, _], _ => rfl
  have F17 := fun_mk (st := s_law_names) l17 c17 k17
  have b17 := F17.binds (ps := ["purse", "many"]) fun _ _ _ _ _ _ us hl => match us, hl with | [_, _], _ => rfl
  have F18 := fun_mk (st := s_law_level) l18 c18 k18
  have b18 := F18.binds (ps := ["purse", "way"]) fun _ _ _ _ _ _ us hl => match us, hl with | [_, _], _ => rfl
  have F19 := fun_mk (st := s_law_rows) l19 c19 k19
  have b19 := F19.binds (ps := ["purse", "names", "many", "way"]) fun _ _ _ _ _ _ us hl => match us, hl with | [_, _, _, _], _ => rfl
  have F20 := fun_mk (st := s_law_coming) l20 c20 k20
  have b20 := F20.binds (ps := ["purse", "names", "way"]) fun _ _ _ _ _ _ us hl => match us, hl with | [_, _, _], _ => rfl
  have F21 := fun_mk (st := s_law_gone) l21 c21 k21
  have b21 := F21.binds (ps := ["events", "number"]) fun _ _ _ _ _ _ us hl => match us, hl with | [_, _], _ => rfl
  have F22 := fun_mk (st := s_law_trade_right) l22 c22 k22
  have b22 := F22.binds (ps := ["event", "there", "coming", "near", "width"]) fun _ _ _ _ _ _ us hl => match us, hl with | [_, _, _, _, _], _ => rfl
  have F23 := fun_mk (st := s_law_none_passed) l23 c23 k23
  have b23 := F23.binds (ps := ["events", "rows", "coming"]) fun _ _ _ _ _ _ us hl => match us, hl with | [_, _, _], _ => rfl
  have F24 := fun_mk (st := s_law) l24 c24 k24
  refine ⟨cR, PR, cM, PM, PySem.W.fnOf "law" "law" (defArgs s_law) (defBody s_law) (defScope s_law) .none kV24 dc24 pm24 an24 cd24 ct24, tb1, tb2, nR, nM, fun s v => .of_eq rfl, fun base _ _ TB1 TB2 => ?_⟩
  have C1 : Cal l.prog w K mg base 1 "lets" ["price", "side", "other"] (@spD famS _ (@mLets famS)) := ⟨f1, _, (letI : Fam := famS; ok_lets F1 T), PySem.W.mg_of X G a1, k1, b1⟩
  have C2 : Cal l.prog w K mg base 1 "against" ["side"] (@spD famS _ (@mAg famS)) := ⟨f2, _, (letI : Fam := famS; ok_against F2 T), PySem.W.mg_of X G a2, k2, b2⟩
  have C3 : Cal l.prog w K mg base 1 "too_far" ["price", "band", "anchor"] (@spD famS _ (@mFar famS)) := ⟨f3, _, (letI : Fam := famS; ok_far F3 T), PySem.W.mg_of X G a3, k3, b3⟩
  have C4 : Cal l.prog w K mg base 1 "part_seen" ["shown", "left"] (@spD famS _ (@mPart famS)) := ⟨f4, _, (letI : Fam := famS; ok_part F4 T), PySem.W.mg_of X G a4, k4, b4⟩
  have C5 : Cal l.prog w K mg base 1 "hidden_first" ["row", "amount"] (@spD famS _ (@mHid famS)) := ⟨f5, _, (letI : Fam := famS; ok_hid F5 T), PySem.W.mg_of X G a5, k5, b5⟩
  have C6 : Cal l.prog w K mg base 1 "seen_first" ["row", "amount"] (@spD famS _ (@mSeen famS)) := ⟨f6, _, (letI : Fam := famS; ok_seen F6 T), PySem.W.mg_of X G a6, k6, b6⟩
  have C7 : Cal l.prog w K mg base 2 "shown_anew" ["rows", "rank"] (@spD famS _ (@mAnew famS)) := ⟨f7, _, (letI : Fam := famS; ok_anew F7 T C4), PySem.W.mg_of X G a7, k7, b7⟩
  have C8 : Cal l.prog w K mg base 1 "shares" ["left", "seen"] (@spD famS _ (@mShares famS)) := ⟨f8, _, (letI : Fam := famS; ok_shares F8 T), PySem.W.mg_of X G a8, k8, b8⟩
  have C9 : Cal l.prog w K mg base 3 "step_with_own" ["row", "coming", "left", "rank"] (@spD famS _ (@mOwn famS)) := ⟨f9, _, (letI : Fam := famS; ok_own F9 T C7 C5), PySem.W.mg_of X G a9, k9, b9⟩
  have C10 : Cal l.prog w K mg base 3 "step_of_trades" ["met", "coming", "left", "rank"] (@spD famS _ (@mTrades famS)) := ⟨f10, _, (letI : Fam := famS; ok_trades F10 T C7 C6 C8), PySem.W.mg_of X G a10, k10, b10⟩
  have C11 : Cal l.prog w K mg base 4 "step" ["met", "coming", "left", "rank"] (@spD famS _ (@mStep famS)) := ⟨f11, _, (letI : Fam := famS; ok_step F11 T C9 C10), PySem.W.mg_of X G a11, k11, b11⟩
  have C12 : Cal l.prog w K mg base 2 "rows_met" ["rows", "side", "rule"] (@spD famS _ (@mMet famS)) := ⟨f12, _, (letI : Fam := famS; ok_met (FunC.mk l12 c12) T TB2 mM uM), PySem.W.mg_of X G a12, k12, b12⟩
  have C13 : Cal l.prog w K mg base 2 "ranked" ["rows"] (@spD famS _ (@mRanked famS)) := ⟨f13, _, (letI : Fam := famS; ok_ranked (FunC.mk l13 c13) T TB1 mR uR), PySem.W.mg_of X G a13, k13, b13⟩
  have GL := (letI : Fam := famS; ok_meetA F14 T C12 C2 C1 C3 C11 C13)
  have kb : KBn K (PySem.W.fnOf "plain_meet" "plain_meet" (defArgs s_plain_meet) (defBody s_plain_meet) (defScope s_plain_meet) .none (.ref DL) dc14 pm14 an14 cd14 ct14) ["rows", "coming", "rank", "band", "anchor", "rule"] 2 ["rank", "band", "anchor", "rule"] (fun us ws => us ++ ws) (fun vs zs => vs ++ zs) :=
    ⟨fun s us ws _ l1 l2 => match us, ws, l1, l2 with | [_, _], [_, _, _, _], _, _ => .of_eq rfl, fun r1 r2 => r1.append r2⟩
  have C15 : Cal l.prog w K mg base 1 "_law_purse" ["script", "k"] (spPurse K) := ⟨f15, _, ok_purse F15 T, PySem.W.mg_of X G a15, k15, b15⟩
  have C16 : Cal l.prog w K mg base 1 "_law_coin" ["purse", "many"] (spCoin) := ⟨f16, _, ok_coin F16, PySem.W.mg_of X G a16, k16, b16⟩
  have C17 : Cal l.prog w K mg base 2 "_law_names" ["purse", "many"] (spNames) := ⟨f17, _, ok_names F17 T C16, PySem.W.mg_of X G a17, k17, b17⟩
  have C18 : Cal l.prog w K mg base 2 "_law_level" ["purse", "way"] (spD mLevel) := ⟨f18, _, ok_level F18 T (coin_D C16), PySem.W.mg_of X G a18, k18, b18⟩
  have C19 : Cal l.prog w K mg base 3 "_law_rows" ["purse", "names", "many", "way"] (spD mRows) := ⟨f19, _, ok_rows F19 T (coin_D C16) C18, PySem.W.mg_of X G a19, k19, b19⟩
  have C20 : Cal l.prog w K mg base 3 "_law_coming" ["purse", "names", "way"] (spD mComing) := ⟨f20, _, ok_coming F20 T (coin_D C16) C18, PySem.W.mg_of X G a20, k20, b20⟩
  have C21 : Cal l.prog w K mg base 1 "_law_gone" ["events", "number"] (@spD famB _ mGoneB) := ⟨f21, _, ok_goneB F21 T, PySem.W.mg_of X G a21, k21, b21⟩
  have C22 : Cal l.prog w K mg base 1 "_law_trade_right" ["event", "there", "coming", "near", "width"] (@spD famS _ mTR) := ⟨f22, _, ok_trR F22 T, PySem.W.mg_of X G a22, k22, b22⟩
  have C23 : Cal l.prog w K mg base 1 "_law_none_passed" ["events", "rows", "coming"] (@spD famS _ mNP) := ⟨f23, _, ok_np F23 T, PySem.W.mg_of X G a23, k23, b23⟩
  exact ok_law F24 T C15 (up_D (coin_D C16)) (up_D (names_D C17)) (up_D C18) (up_D C19) (up_D C20) (up_D C21) C22 C23 ⟨f14, _, GL, PySem.W.mg_of X G a14, k14, kb⟩
theorem walk {l : PySem.W.OpenLaw} {q : Program} {loose : List Str} {XP : (Str → Option Value) → Heap → Prop} {YP : World → Heap → Prop} {d : DefRec} {K : Params → PySem.W.Frag} (hn : l.most = some 63) (hdf : d.params.defaults = [])
    (hrec1 : ∃ dr, (PyProof.Rows.recsOf q).find? (fun e => e.name == ("ranked" : Str)) = some dr) (hrec2 : ∃ dr, (PyProof.Rows.recsOf q).find? (fun e => e.name == ("rows_met" : Str)) = some dr) (hY : ∀ (w : World) (h : Heap), YP w h → (K w.params).In h)
    (F : ∀ (w : World) (mg : Str → Option Value) (fa : Addr) (h : Heap), (K w.params).In h → h.Ns mainGlobals mg → mg d.name = some (.ref fa) →
      ∃ (c1 P1 c2 P2 : Addr) (fd : FuncData), PySem.W.tabIn (K w.params) "ranked" = some (c1, P1) ∧ PySem.W.tabIn (K w.params) "rows_met" = some (c2, P2) ∧ (K w.params).lookup P1 = none ∧ (K w.params).lookup P2 = none ∧ (∀ (s : Shared) (u : Value), BindsTo s fd ⟨[u], []⟩ [("script", u)]) ∧
        ∀ base : Heap, (K w.params).In base → base.Ns mainGlobals mg → LamX.TabB base mg c1 P1 → LamX.TabB base mg c2 P2 → FnOk l.prog w (K w.params) mg base CX0 9 fa fd ["script"] (@spLaw (tz P1 P2) (K w.params))) :
    PySem.W.WalkO q loose XP YP l.row.toRowW d [] (fun f vs => PySem.call f vs) := by
  refine Att.attach_callB hn hdf fun w s0 s1 mg mb fa o pm cd doc adr us nums Gr Yh h1 h2 h3 h4 h5 h6 h7 h8 h9 => ?_
  have KX := hY w _ Yh
  obtain ⟨c1, P1, c2, P2, fd, ht1, ht2, nT1, nT2, hb, hF⟩ := F w mg fa _ KX Gr.T.g h4
  obtain ⟨dr1, hdr1⟩ := hrec1
  obtain ⟨dr2, hdr2⟩ := hrec2
  obtain ⟨hC1, hP1⟩ := PySem.W.tab_of Gr.T KX hdr1 ht1
  obtain ⟨hC2, hP2⟩ := PySem.W.tab_of Gr.T KX hdr2 ht2
  have two : ∀ {Z : Addr × Addr → Prop}, Z (c1, P1) → Z (c2, P2) → ∀ p ∈ [(c1, P1), (c2, P2)], Z p := fun z1 z2 p hp => by
    rcases List.mem_cons.mp hp with e | hp
    · rw [e]; exact z1
    · rw [List.mem_singleton.mp hp]; exact z2
  refine LamX.law_callTs (cs := [(c1, P1), (c2, P2)]) (CX := CX0) (k := 9) (sp := @spLaw (tz P1 P2) (K w.params)) (x := "script") KX Gr.T.g Gr.T.b Gr.T.builtins Gr.T.nolimit h9 (two hP1 hP2) (two nT1 nT2) (two hC1 hC2) Gr.T.bmain h5 h6 (Nat.le_trans h7 (by decide)) ⟨rfl, by decide, by decide⟩
    (fun base k1 k2 tB => hF base k1 k2 (tB _ List.mem_cons_self) (tB _ (List.mem_cons_of_mem _ List.mem_cons_self))) hb (fun H hT hS => ⟨adr, nums, rfl, hS, h7, fun p hp => ?_, fun _ => rfl⟩) fun _ _ _ z => z
  rcases List.mem_cons.mp hp with e | hp
  · rw [e]
    exact LamX.TabS.nil (hT _ List.mem_cons_self)
  · rw [List.mem_singleton.mp hp]
    exact LamX.TabS.nil (hT _ (List.mem_cons_of_mem _ List.mem_cons_self))
end Rh
open PySem PySem.W PyProof.Rows
set_option maxRecDepth 100000 in
set_option maxHeartbeats 0 in
theorem PySem.Challenge.cw_ringhall_k11_whole_sums_of_a_meeting_holds : PySem.Challenge.rw_ringhall_k11_whole_sums_of_a_meeting.Holds := by
  w_on; o_law; k_head; (case hw => w_witness2)
  k_fill
  refine Rh.walk (l := PySem.Challenge.rw_ringhall_k11_whole_sums_of_a_meeting) rfl rfl ⟨_, rfl⟩ ⟨_, rfl⟩ (fun w h Y => PySem.W.km_in_of Y) ?F
  case F =>
    intro w mg fa h KX G hmg
    refine' Rh.all_mk KX G hmg ?a1 ?l1 ?c1 ?k1 ?a2 ?l2 ?c2 ?k2 ?a3 ?l3 ?c3 ?k3 ?a4 ?l4 ?c4 ?k4 ?a5 ?l5 ?c5 ?k5 ?a6 ?l6 ?c6 ?k6 ?a7 ?l7 ?c7 ?k7 ?a8 ?l8 ?c8 ?k8 ?a9 ?l9 ?c9 ?k9 ?a10 ?l10 ?c10 ?k10 ?a11 ?l11 ?c11 ?k11 ?a12 ?l12 ?c12 ?k12 ?a13 ?l13 ?c13 ?k13 ?a14 ?l14 ?c14 ?k14 ?a15 ?l15 ?c15 ?k15 ?a16 ?l16 ?c16 ?k16 ?a17 ?l17 ?c17 ?k17 ?a18 ?l18 ?c18 ?k18 ?a19 ?l19 ?c19 ?k19 ?a20 ?l20 ?c20 ?k20 ?a21 ?l21 ?c21 ?k21 ?a22 ?l22 ?c22 ?k22 ?a23 ?l23 ?c23 ?k23 ?a24 ?l24 ?c24 ?k24 ?z0 ?z1 ?z2 ?z3 ?z4 ?z5 ?z6 ?z7 ?z8 ?z9 ?z10 ?z11 ?z12 ?z13 ?z14 ?z15 ?gl_0 ?gl_1 ?gl_2 ?gl_3 ?gl_4 ?gl_5 ?gl_6 ?gl_7 ?lcR ?vR ?nR ?lcM ?vM ?nM ?ne ?dB ?dA ?dR
    (case a1 => k_is)
    (case l1 => k_is)
    (case c1 => k_is)
    (case k1 => k_is)
    (case a2 => k_is)
    (case l2 => k_is)
    (case c2 => k_is)
    (case k2 => k_is)
    (case a3 => k_is)
    (case l3 => k_is)
    (case c3 => k_is)
    (case k3 => k_is)
    (case a4 => k_is)
    (case l4 => k_is)
    (case c4 => k_is)
    (case k4 => k_is)
    (case a5 => k_is)
    (case l5 => k_is)
    (case c5 => k_is)
    (case k5 => k_is)
    (case a6 => k_is)
    (case l6 => k_is)
    (case c6 => k_is)
    (case k6 => k_is)
    (case a7 => k_is)
    (case l7 => k_is)
    (case c7 => k_is)
    (case k7 => k_is)
    (case a8 => k_is)
    (case l8 => k_is)
    (case c8 => k_is)
    (case k8 => k_is)
    (case a9 => k_is)
    (case l9 => k_is)
    (case c9 => k_is)
    (case k9 => k_is)
    (case a10 => k_is)
    (case l10 => k_is)
    (case c10 => k_is)
    (case k10 => k_is)
    (case a11 => k_is)
    (case l11 => k_is)
    (case c11 => k_is)
    (case k11 => k_is)
    (case a12 => k_is)
    (case l12 => k_is)
    (case c12 => k_is)
    (case k12 => k_is)
    (case a13 => k_is)
    (case l13 => k_is)
    (case c13 => k_is)
    (case k13 => k_is)
    (case a14 => k_is)
    (case l14 => k_is)
    (case c14 => k_is)
    (case k14 => k_is)
    (case a15 => k_is)
    (case l15 => k_is)
    (case c15 => k_is)
    (case k15 => k_is)
    (case a16 => k_is)
    (case l16 => k_is)
    (case c16 => k_is)
    (case k16 => k_is)
    (case a17 => k_is)
    (case l17 => k_is)
    (case c17 => k_is)
    (case k17 => k_is)
    (case a18 => k_is)
    (case l18 => k_is)
    (case c18 => k_is)
    (case k18 => k_is)
    (case a19 => k_is)
    (case l19 => k_is)
    (case c19 => k_is)
    (case k19 => k_is)
    (case a20 => k_is)
    (case l20 => k_is)
    (case c20 => k_is)
    (case k20 => k_is)
    (case a21 => k_is)
    (case l21 => k_is)
    (case c21 => k_is)
    (case k21 => k_is)
    (case a22 => k_is)
    (case l22 => k_is)
    (case c22 => k_is)
    (case k22 => k_is)
    (case a23 => k_is)
    (case l23 => k_is)
    (case c23 => k_is)
    (case k23 => k_is)
    (case a24 => k_is)
    (case l24 => k_is)
    (case c24 => k_is)
    (case k24 => k_is)
    (case z0 => k_is)
    (case z1 => k_is)
    (case z2 => k_is)
    (case z3 => k_is)
    (case z4 => k_is)
    (case z5 => k_is)
    (case z6 => k_is)
    (case z7 => k_is)
    (case z8 => k_is)
    (case z9 => k_is)
    (case z10 => k_is)
    (case z11 => k_is)
    (case z12 => k_is)
    (case z13 => k_is)
    (case z14 => k_is)
    (case z15 => k_is)
    (case gl_0 => k_is)
    (case gl_1 => k_is)
    (case gl_2 => k_is)
    (case gl_3 => k_is)
    (case gl_4 => k_is)
    (case gl_5 => k_is)
    (case gl_6 => k_is)
    (case gl_7 => k_is)
    (case lcR => k_is)
    (case vR => rfl)
    (case nR => first | kernel_rfl | rfl)
    (case lcM => k_is)
    (case vM => rfl)
    (case nM => first | kernel_rfl | rfl)
    (case ne => first | decide | simp | exact fun h => by cases h)
    (case dB => k_is)
    (case dA => k_is)
    (case dR => k_is)
